/-
  What sameState_holds needs, part 2.
-/
import Derived.Test.YtngcbhbcocnbeaaZM1
namespace Go.Proofs.Ytngcbhbcocnbeaa
open Go.ChangeShapes Go.WideShapes Go.ChangeAt Go.RowKit Go.Joins Go.Deep

theorem cell_set1 {w : World} {b o x o' : Nat} {u v : Value} (h : w.cell? ⟨b, o, none⟩ = some u) (hne : b ≠ x) : (w.setCell ⟨x, o', none⟩ v).cell? ⟨b, o, none⟩ = some u := by
  rw [World.cell?_of_block (w := w) ((grown_cellG w x o' v).block b (World.block_lt_of_cell? w _ h) (fun e => hne (by simpa using e)))]
  exact h
theorem frz_set1 {w : World} {b o x o' : Nat} {v : Value} (h : w.frozen? ⟨b, o, none⟩ = false) : (w.setCell ⟨x, o', none⟩ v).frozen? ⟨b, o, none⟩ = false := by
  simpa [go_sem] using h
theorem OwnG.ne_of {α : Type} {K : Kd α} {t : TypeId} {w : World} {B x : Nat} {v : Value} {ps : List α} (h : OwnG K t w B v ps) (hx : x < B) : ∀ k, v.ownBlock = some k → some x ≠ some k := fun k hk e => by
  have := (OwnG.lt h k hk).1
  simp at e; omega
theorem bx8 (w : World) (t : TypeId) (v0 v1 v2 v3 v4 v5 v6 v7 : Value) : (w.alloc (.cells #[v0, v1, v2, v3, v4, v5, v6, v7] t)).cell? ⟨w.heap.size, 0, none⟩ = some v0 ∧ (w.alloc (.cells #[v0, v1, v2, v3, v4, v5, v6, v7] t)).cell? ⟨w.heap.size, 1, none⟩ = some v1 ∧ (w.alloc (.cells #[v0, v1, v2, v3, v4, v5, v6, v7] t)).cell? ⟨w.heap.size, 2, none⟩ = some v2 ∧ (w.alloc (.cells #[v0, v1, v2, v3, v4, v5, v6, v7] t)).cell? ⟨w.heap.size, 3, none⟩ = some v3 ∧ (w.alloc (.cells #[v0, v1, v2, v3, v4, v5, v6, v7] t)).cell? ⟨w.heap.size, 4, none⟩ = some v4 ∧ (w.alloc (.cells #[v0, v1, v2, v3, v4, v5, v6, v7] t)).cell? ⟨w.heap.size, 5, none⟩ = some v5 ∧ (w.alloc (.cells #[v0, v1, v2, v3, v4, v5, v6, v7] t)).cell? ⟨w.heap.size, 6, none⟩ = some v6 ∧ (w.alloc (.cells #[v0, v1, v2, v3, v4, v5, v6, v7] t)).cell? ⟨w.heap.size, 7, none⟩ = some v7 := ⟨by simp [go_sem], by simp [go_sem], by simp [go_sem], by simp [go_sem], by simp [go_sem], by simp [go_sem], by simp [go_sem], by simp [go_sem]⟩
/-- How much of a law's room a state takes. -/
def totS (ps : List Pl) (bs : List Bk) (ls : List Ls) (ss : List Ss) : Int := totP ps bs + totB ls + totD ss
theorem totB_nn (ls : List Ls) : 0 ≤ totB ls := by unfold totB; omega
theorem totD_nn (ss : List Ss) : 0 ≤ totD ss := by unfold totD; omega
theorem totP_nn (ps : List Pl) (bs : List Bk) : 0 ≤ totP ps bs := by unfold totP; omega

set_option maxRecDepth 10000 in
set_option maxHeartbeats 2000000 in
theorem szState_any (ap : Option Addr) (np cp : Nat) (ab : Option Addr) (nb cb : Nat) (al : Option Addr) (nl cl : Nat) (T N : Int) (aS : Option Addr) (ns cs : Nat) (X C : Int) (ps : List Pl) (bs : List Bk) (ls : List Ls) (ss : List Ss) (w : World) (hnp : np = ps.length) (hnb : nb = bs.length) (hnl : nl = ls.length) (hns : ns = ss.length) (hK : RowG KBk w ab bs) (hL : RowG KLs w al ls) (hS : RowG KSs w aS ss) (h9p : np ≤ 9223372036854775807) (h9b : nb ≤ 9223372036854775807) (h9l : nl ≤ 9223372036854775807) (h9s : ns ≤ 9223372036854775807) (hsb : ∀ q ∈ bs, q.t.size ≤ 9223372036854775807) (hsl : ∀ q ∈ ls, q.t.size ≤ 9223372036854775807) (hss : ∀ q ∈ ss, q.t.size ≤ 9223372036854775807) :
    Calls Try.prog 4 #[.agg #[.slice ap np cp, .slice ab nb cb, .slice al nl cl, .int .i64 T, .int .i64 N, .slice aS ns cs, .int .i64 X, .int .i64 C], .int .i64 1048576] w fun e w' => e = .returned (.int .i64 (szT (totS ps bs ls ss))) ∧ Below w.heap.size w w' := by
  have HP := hidP (fun W h => szPlan_any ap np cp ab nb cb ps bs W hnp hnb (hK.later h) h9p h9b hsb)
  have HB := hidP (fun l h0 h1 W h => szBook_at al nl cl T N ls l h0 h1 W hnl (hL.later h) h9l hsl)
  have HD := hidP (fun l h0 h1 W h => szDesk_at aS ns cs X ss l h0 h1 W hns (hS.later h) h9s hss)
  have e1 : totB ls = (ls.length : Int) + (sumL ls : Int) := rfl
  have e2 : totD ss = (ss.length : Int) + (sumS ss : Int) := rfl
  have n1 := totP_nn ps bs
  unfold totS
  clear hK hL hS hnp hnb hnl hns hsb hsl hss
  by_cases ht : totP ps bs ≤ 1048576
  · rw [szT_yes ht] at HP
    have d1 : decide (1048576 - totP ps bs < 0) = false := decide_eq_false (by omega)
    by_cases hb : (ls.length : Int) + (sumL ls : Int) ≤ 1048576 - totP ps bs
    · have HB1 := hidP (fun W h => HB.out (1048576 - totP ps bs) (by omega) (by omega) W h)
      rw [szB_yes hb] at HB1
      have d2 : decide (1048576 - totP ps bs - (ls.length : Int) - (sumL ls : Int) < 0) = false := decide_eq_false (by omega)
      have HD1 := hidP (fun W h => HD.out (1048576 - totP ps bs - (ls.length : Int) - (sumL ls : Int)) (by omega) (by omega) W h)
      have n3 : ¬ (1048576 - totP ps bs < 0) := by omega
      have n4 : ¬ (1048576 - totP ps bs - (ls.length : Int) - (sumL ls : Int) < 0) := by omega
      by_cases hd : (ss.length : Int) + (sumS ss : Int) ≤ 1048576 - totP ps bs - (ls.length : Int) - (sumL ls : Int)
      · rw [szB_yes hd] at HD1
        rw [szT_yes (by omega)]
        have d3 : decide (1048576 - totP ps bs - (ls.length : Int) - (sumL ls : Int) - (ss.length : Int) - (sumS ss : Int) < 0) = false := decide_eq_false (by omega)
        have n5 : ¬ (1048576 - totP ps bs - (ls.length : Int) - (sumL ls : Int) - (ss.length : Int) - (sumS ss : Int) < 0) := by omega
        have HE := hidP (show 1048576 - totP ps bs - (ls.length : Int) - (sumL ls : Int) - (ss.length : Int) - (sumS ss : Int) = 1048576 - (totP ps bs + totB ls + totD ss) by omega)
        generalize 1048576 - totP ps bs - (ls.length : Int) - (sumL ls : Int) - (ss.length : Int) - (sumS ss : Int) = z3 at *
        generalize 1048576 - totP ps bs - (ls.length : Int) - (sumL ls : Int) = z2 at *
        generalize 1048576 - totP ps bs = z1 at *
        clear HB HD
        go_enter Try.func4, Try.ntmps4
        go_wp2_with fail
        obtain ⟨bx0_W1, bx1_W1, bx2_W1, bx3_W1, bx4_W1, bx5_W1, bx6_W1, bx7_W1⟩ := bx8 w 33 (.slice ap np cp) (.slice ab nb cb) (.slice al nl cl) (.int .i64 T) (.int .i64 N) (.slice aS ns cs) (.int .i64 X) (.int .i64 C)
        have bxF_W1 : ∀ o, (w.alloc (.cells #[.slice ap np cp, .slice ab nb cb, .slice al nl cl, .int .i64 T, .int .i64 N, .slice aS ns cs, .int .i64 X, .int .i64 C] 33)).frozen? ⟨w.heap.size, o, none⟩ = false := fun o => by simp [go_sem]
        have bxL_W1 : w.heap.size < (w.alloc (.cells #[.slice ap np cp, .slice ab nb cb, .slice al nl cl, .int .i64 T, .int .i64 N, .slice aS ns cs, .int .i64 X, .int .i64 C] 33)).heap.size := by simp
        have ab_W1 := alloc_below w (.cells #[.slice ap np cp, .slice ab nb cb, .slice al nl cl, .int .i64 T, .int .i64 N, .slice aS ns cs, .int .i64 X, .int .i64 C] 33)
        have as_W1 : Hid ((w.alloc (.cells #[.slice ap np cp, .slice ab nb cb, .slice al nl cl, .int .i64 T, .int .i64 N, .slice aS ns cs, .int .i64 X, .int .i64 C] 33)).heap.size = w.heap.size + 1) := hidP (by simp)
        generalize w.alloc (.cells #[.slice ap np cp, .slice ab nb cb, .slice al nl cl, .int .i64 T, .int .i64 N, .slice aS ns cs, .int .i64 X, .int .i64 C] 33) = W1 at *
        have acc_W1 := hidP (ab_W1)
        have sz_W1 : Hid (w.heap.size ≤ W1.heap.size) := hidP ab_W1.size
        clear ab_W1 
        refine (HP.out _ acc_W1.out).mono ?_
        rintro e u0 ⟨rfl, hb0⟩
        have bx0_u0 := (hb0.cell bxL_W1).trans bx0_W1
        have bx1_u0 := (hb0.cell bxL_W1).trans bx1_W1
        have bx2_u0 := (hb0.cell bxL_W1).trans bx2_W1
        have bx3_u0 := (hb0.cell bxL_W1).trans bx3_W1
        have bx4_u0 := (hb0.cell bxL_W1).trans bx4_W1
        have bx5_u0 := (hb0.cell bxL_W1).trans bx5_W1
        have bx6_u0 := (hb0.cell bxL_W1).trans bx6_W1
        have bx7_u0 := (hb0.cell bxL_W1).trans bx7_W1
        have bxF_u0 : ∀ o, u0.frozen? ⟨w.heap.size, o, none⟩ = false := fun o => (hb0.frozen bxL_W1).trans (bxF_W1 o)
        have bxL_u0 : w.heap.size < u0.heap.size := Nat.lt_of_lt_of_le bxL_W1 hb0.size
        have acc_u0 := hidP (acc_W1.out.trans (hb0.mono acc_W1.out.size))
        have sz_u0 : Hid (W1.heap.size ≤ u0.heap.size) := hidP hb0.size
        clear hb0 bx0_W1 bx1_W1 bx2_W1 bx3_W1 bx4_W1 bx5_W1 bx6_W1 bx7_W1 bxF_W1 bxL_W1 acc_W1
        go_wp2_with fail
        refine (HB1.out _ acc_u0.out).mono ?_
        rintro e u1 ⟨rfl, hb1⟩
        have bx0_u1 := (hb1.cell bxL_u0).trans bx0_u0
        have bx1_u1 := (hb1.cell bxL_u0).trans bx1_u0
        have bx2_u1 := (hb1.cell bxL_u0).trans bx2_u0
        have bx3_u1 := (hb1.cell bxL_u0).trans bx3_u0
        have bx4_u1 := (hb1.cell bxL_u0).trans bx4_u0
        have bx5_u1 := (hb1.cell bxL_u0).trans bx5_u0
        have bx6_u1 := (hb1.cell bxL_u0).trans bx6_u0
        have bx7_u1 := (hb1.cell bxL_u0).trans bx7_u0
        have bxF_u1 : ∀ o, u1.frozen? ⟨w.heap.size, o, none⟩ = false := fun o => (hb1.frozen bxL_u0).trans (bxF_u0 o)
        have bxL_u1 : w.heap.size < u1.heap.size := Nat.lt_of_lt_of_le bxL_u0 hb1.size
        have acc_u1 := hidP (acc_u0.out.trans (hb1.mono acc_u0.out.size))
        have sz_u1 : Hid (u0.heap.size ≤ u1.heap.size) := hidP hb1.size
        clear hb1 bx0_u0 bx1_u0 bx2_u0 bx3_u0 bx4_u0 bx5_u0 bx6_u0 bx7_u0 bxF_u0 bxL_u0 acc_u0
        go_wp2_with fail
        refine (HD1.out _ acc_u1.out).mono ?_
        rintro e u2 ⟨rfl, hb2⟩
        have bx0_u2 := (hb2.cell bxL_u1).trans bx0_u1
        have bx1_u2 := (hb2.cell bxL_u1).trans bx1_u1
        have bx2_u2 := (hb2.cell bxL_u1).trans bx2_u1
        have bx3_u2 := (hb2.cell bxL_u1).trans bx3_u1
        have bx4_u2 := (hb2.cell bxL_u1).trans bx4_u1
        have bx5_u2 := (hb2.cell bxL_u1).trans bx5_u1
        have bx6_u2 := (hb2.cell bxL_u1).trans bx6_u1
        have bx7_u2 := (hb2.cell bxL_u1).trans bx7_u1
        have bxF_u2 : ∀ o, u2.frozen? ⟨w.heap.size, o, none⟩ = false := fun o => (hb2.frozen bxL_u1).trans (bxF_u1 o)
        have bxL_u2 : w.heap.size < u2.heap.size := Nat.lt_of_lt_of_le bxL_u1 hb2.size
        have acc_u2 := hidP (acc_u1.out.trans (hb2.mono acc_u1.out.size))
        have sz_u2 : Hid (u1.heap.size ≤ u2.heap.size) := hidP hb2.size
        clear hb2 bx0_u1 bx1_u1 bx2_u1 bx3_u1 bx4_u1 bx5_u1 bx6_u1 bx7_u1 bxF_u1 bxL_u1 acc_u1
        go_wp2_with fail
        go_ret
        exact ⟨ret_i HE.out, acc_u2.out⟩
      · rw [szB_no hd] at HD1
        rw [szT_no (by omega)]
        generalize 1048576 - totP ps bs - (ls.length : Int) - (sumL ls : Int) = z2 at *
        generalize 1048576 - totP ps bs = z1 at *
        clear HB HD
        go_enter Try.func4, Try.ntmps4
        go_wp2_with fail
        obtain ⟨bx0_W1, bx1_W1, bx2_W1, bx3_W1, bx4_W1, bx5_W1, bx6_W1, bx7_W1⟩ := bx8 w 33 (.slice ap np cp) (.slice ab nb cb) (.slice al nl cl) (.int .i64 T) (.int .i64 N) (.slice aS ns cs) (.int .i64 X) (.int .i64 C)
        have bxF_W1 : ∀ o, (w.alloc (.cells #[.slice ap np cp, .slice ab nb cb, .slice al nl cl, .int .i64 T, .int .i64 N, .slice aS ns cs, .int .i64 X, .int .i64 C] 33)).frozen? ⟨w.heap.size, o, none⟩ = false := fun o => by simp [go_sem]
        have bxL_W1 : w.heap.size < (w.alloc (.cells #[.slice ap np cp, .slice ab nb cb, .slice al nl cl, .int .i64 T, .int .i64 N, .slice aS ns cs, .int .i64 X, .int .i64 C] 33)).heap.size := by simp
        have ab_W1 := alloc_below w (.cells #[.slice ap np cp, .slice ab nb cb, .slice al nl cl, .int .i64 T, .int .i64 N, .slice aS ns cs, .int .i64 X, .int .i64 C] 33)
        have as_W1 : Hid ((w.alloc (.cells #[.slice ap np cp, .slice ab nb cb, .slice al nl cl, .int .i64 T, .int .i64 N, .slice aS ns cs, .int .i64 X, .int .i64 C] 33)).heap.size = w.heap.size + 1) := hidP (by simp)
        generalize w.alloc (.cells #[.slice ap np cp, .slice ab nb cb, .slice al nl cl, .int .i64 T, .int .i64 N, .slice aS ns cs, .int .i64 X, .int .i64 C] 33) = W1 at *
        have acc_W1 := hidP (ab_W1)
        have sz_W1 : Hid (w.heap.size ≤ W1.heap.size) := hidP ab_W1.size
        clear ab_W1 
        refine (HP.out _ acc_W1.out).mono ?_
        rintro e u0 ⟨rfl, hb0⟩
        have bx0_u0 := (hb0.cell bxL_W1).trans bx0_W1
        have bx1_u0 := (hb0.cell bxL_W1).trans bx1_W1
        have bx2_u0 := (hb0.cell bxL_W1).trans bx2_W1
        have bx3_u0 := (hb0.cell bxL_W1).trans bx3_W1
        have bx4_u0 := (hb0.cell bxL_W1).trans bx4_W1
        have bx5_u0 := (hb0.cell bxL_W1).trans bx5_W1
        have bx6_u0 := (hb0.cell bxL_W1).trans bx6_W1
        have bx7_u0 := (hb0.cell bxL_W1).trans bx7_W1
        have bxF_u0 : ∀ o, u0.frozen? ⟨w.heap.size, o, none⟩ = false := fun o => (hb0.frozen bxL_W1).trans (bxF_W1 o)
        have bxL_u0 : w.heap.size < u0.heap.size := Nat.lt_of_lt_of_le bxL_W1 hb0.size
        have acc_u0 := hidP (acc_W1.out.trans (hb0.mono acc_W1.out.size))
        have sz_u0 : Hid (W1.heap.size ≤ u0.heap.size) := hidP hb0.size
        clear hb0 bx0_W1 bx1_W1 bx2_W1 bx3_W1 bx4_W1 bx5_W1 bx6_W1 bx7_W1 bxF_W1 bxL_W1 acc_W1
        go_wp2_with fail
        refine (HB1.out _ acc_u0.out).mono ?_
        rintro e u1 ⟨rfl, hb1⟩
        have bx0_u1 := (hb1.cell bxL_u0).trans bx0_u0
        have bx1_u1 := (hb1.cell bxL_u0).trans bx1_u0
        have bx2_u1 := (hb1.cell bxL_u0).trans bx2_u0
        have bx3_u1 := (hb1.cell bxL_u0).trans bx3_u0
        have bx4_u1 := (hb1.cell bxL_u0).trans bx4_u0
        have bx5_u1 := (hb1.cell bxL_u0).trans bx5_u0
        have bx6_u1 := (hb1.cell bxL_u0).trans bx6_u0
        have bx7_u1 := (hb1.cell bxL_u0).trans bx7_u0
        have bxF_u1 : ∀ o, u1.frozen? ⟨w.heap.size, o, none⟩ = false := fun o => (hb1.frozen bxL_u0).trans (bxF_u0 o)
        have bxL_u1 : w.heap.size < u1.heap.size := Nat.lt_of_lt_of_le bxL_u0 hb1.size
        have acc_u1 := hidP (acc_u0.out.trans (hb1.mono acc_u0.out.size))
        have sz_u1 : Hid (u0.heap.size ≤ u1.heap.size) := hidP hb1.size
        clear hb1 bx0_u0 bx1_u0 bx2_u0 bx3_u0 bx4_u0 bx5_u0 bx6_u0 bx7_u0 bxF_u0 bxL_u0 acc_u0
        go_wp2_with fail
        refine (HD1.out _ acc_u1.out).mono ?_
        rintro e u2 ⟨rfl, hb2⟩
        have bx0_u2 := (hb2.cell bxL_u1).trans bx0_u1
        have bx1_u2 := (hb2.cell bxL_u1).trans bx1_u1
        have bx2_u2 := (hb2.cell bxL_u1).trans bx2_u1
        have bx3_u2 := (hb2.cell bxL_u1).trans bx3_u1
        have bx4_u2 := (hb2.cell bxL_u1).trans bx4_u1
        have bx5_u2 := (hb2.cell bxL_u1).trans bx5_u1
        have bx6_u2 := (hb2.cell bxL_u1).trans bx6_u1
        have bx7_u2 := (hb2.cell bxL_u1).trans bx7_u1
        have bxF_u2 : ∀ o, u2.frozen? ⟨w.heap.size, o, none⟩ = false := fun o => (hb2.frozen bxL_u1).trans (bxF_u1 o)
        have bxL_u2 : w.heap.size < u2.heap.size := Nat.lt_of_lt_of_le bxL_u1 hb2.size
        have acc_u2 := hidP (acc_u1.out.trans (hb2.mono acc_u1.out.size))
        have sz_u2 : Hid (u1.heap.size ≤ u2.heap.size) := hidP hb2.size
        clear hb2 bx0_u1 bx1_u1 bx2_u1 bx3_u1 bx4_u1 bx5_u1 bx6_u1 bx7_u1 bxF_u1 bxL_u1 acc_u1
        go_wp2_with fail
        go_ret
        exact ⟨rfl, acc_u2.out⟩
    · have HB1 := hidP (fun W h => HB.out (1048576 - totP ps bs) (by omega) (by omega) W h)
      rw [szB_no hb] at HB1
      have n2 := totD_nn ss
      rw [szT_no (by omega)]
      have n3 : ¬ (1048576 - totP ps bs < 0) := by omega
      generalize 1048576 - totP ps bs = z1 at *
      clear HB HD
      go_enter Try.func4, Try.ntmps4
      go_wp2_with fail
      obtain ⟨bx0_W1, bx1_W1, bx2_W1, bx3_W1, bx4_W1, bx5_W1, bx6_W1, bx7_W1⟩ := bx8 w 33 (.slice ap np cp) (.slice ab nb cb) (.slice al nl cl) (.int .i64 T) (.int .i64 N) (.slice aS ns cs) (.int .i64 X) (.int .i64 C)
      have bxF_W1 : ∀ o, (w.alloc (.cells #[.slice ap np cp, .slice ab nb cb, .slice al nl cl, .int .i64 T, .int .i64 N, .slice aS ns cs, .int .i64 X, .int .i64 C] 33)).frozen? ⟨w.heap.size, o, none⟩ = false := fun o => by simp [go_sem]
      have bxL_W1 : w.heap.size < (w.alloc (.cells #[.slice ap np cp, .slice ab nb cb, .slice al nl cl, .int .i64 T, .int .i64 N, .slice aS ns cs, .int .i64 X, .int .i64 C] 33)).heap.size := by simp
      have ab_W1 := alloc_below w (.cells #[.slice ap np cp, .slice ab nb cb, .slice al nl cl, .int .i64 T, .int .i64 N, .slice aS ns cs, .int .i64 X, .int .i64 C] 33)
      have as_W1 : Hid ((w.alloc (.cells #[.slice ap np cp, .slice ab nb cb, .slice al nl cl, .int .i64 T, .int .i64 N, .slice aS ns cs, .int .i64 X, .int .i64 C] 33)).heap.size = w.heap.size + 1) := hidP (by simp)
      generalize w.alloc (.cells #[.slice ap np cp, .slice ab nb cb, .slice al nl cl, .int .i64 T, .int .i64 N, .slice aS ns cs, .int .i64 X, .int .i64 C] 33) = W1 at *
      have acc_W1 := hidP (ab_W1)
      have sz_W1 : Hid (w.heap.size ≤ W1.heap.size) := hidP ab_W1.size
      clear ab_W1 
      refine (HP.out _ acc_W1.out).mono ?_
      rintro e u0 ⟨rfl, hb0⟩
      have bx0_u0 := (hb0.cell bxL_W1).trans bx0_W1
      have bx1_u0 := (hb0.cell bxL_W1).trans bx1_W1
      have bx2_u0 := (hb0.cell bxL_W1).trans bx2_W1
      have bx3_u0 := (hb0.cell bxL_W1).trans bx3_W1
      have bx4_u0 := (hb0.cell bxL_W1).trans bx4_W1
      have bx5_u0 := (hb0.cell bxL_W1).trans bx5_W1
      have bx6_u0 := (hb0.cell bxL_W1).trans bx6_W1
      have bx7_u0 := (hb0.cell bxL_W1).trans bx7_W1
      have bxF_u0 : ∀ o, u0.frozen? ⟨w.heap.size, o, none⟩ = false := fun o => (hb0.frozen bxL_W1).trans (bxF_W1 o)
      have bxL_u0 : w.heap.size < u0.heap.size := Nat.lt_of_lt_of_le bxL_W1 hb0.size
      have acc_u0 := hidP (acc_W1.out.trans (hb0.mono acc_W1.out.size))
      have sz_u0 : Hid (W1.heap.size ≤ u0.heap.size) := hidP hb0.size
      clear hb0 bx0_W1 bx1_W1 bx2_W1 bx3_W1 bx4_W1 bx5_W1 bx6_W1 bx7_W1 bxF_W1 bxL_W1 acc_W1
      go_wp2_with fail
      refine (HB1.out _ acc_u0.out).mono ?_
      rintro e u1 ⟨rfl, hb1⟩
      have bx0_u1 := (hb1.cell bxL_u0).trans bx0_u0
      have bx1_u1 := (hb1.cell bxL_u0).trans bx1_u0
      have bx2_u1 := (hb1.cell bxL_u0).trans bx2_u0
      have bx3_u1 := (hb1.cell bxL_u0).trans bx3_u0
      have bx4_u1 := (hb1.cell bxL_u0).trans bx4_u0
      have bx5_u1 := (hb1.cell bxL_u0).trans bx5_u0
      have bx6_u1 := (hb1.cell bxL_u0).trans bx6_u0
      have bx7_u1 := (hb1.cell bxL_u0).trans bx7_u0
      have bxF_u1 : ∀ o, u1.frozen? ⟨w.heap.size, o, none⟩ = false := fun o => (hb1.frozen bxL_u0).trans (bxF_u0 o)
      have bxL_u1 : w.heap.size < u1.heap.size := Nat.lt_of_lt_of_le bxL_u0 hb1.size
      have acc_u1 := hidP (acc_u0.out.trans (hb1.mono acc_u0.out.size))
      have sz_u1 : Hid (u0.heap.size ≤ u1.heap.size) := hidP hb1.size
      clear hb1 bx0_u0 bx1_u0 bx2_u0 bx3_u0 bx4_u0 bx5_u0 bx6_u0 bx7_u0 bxF_u0 bxL_u0 acc_u0
      go_wp2_with fail
      go_ret
      exact ⟨rfl, acc_u1.out⟩
  · rw [szT_no ht] at HP
    have n2 := totD_nn ss
    have n3 := totB_nn ls
    rw [szT_no (by omega)]
    clear HB HD
    go_enter Try.func4, Try.ntmps4
    go_wp2_with fail
    obtain ⟨bx0_W1, bx1_W1, bx2_W1, bx3_W1, bx4_W1, bx5_W1, bx6_W1, bx7_W1⟩ := bx8 w 33 (.slice ap np cp) (.slice ab nb cb) (.slice al nl cl) (.int .i64 T) (.int .i64 N) (.slice aS ns cs) (.int .i64 X) (.int .i64 C)
    have bxF_W1 : ∀ o, (w.alloc (.cells #[.slice ap np cp, .slice ab nb cb, .slice al nl cl, .int .i64 T, .int .i64 N, .slice aS ns cs, .int .i64 X, .int .i64 C] 33)).frozen? ⟨w.heap.size, o, none⟩ = false := fun o => by simp [go_sem]
    have bxL_W1 : w.heap.size < (w.alloc (.cells #[.slice ap np cp, .slice ab nb cb, .slice al nl cl, .int .i64 T, .int .i64 N, .slice aS ns cs, .int .i64 X, .int .i64 C] 33)).heap.size := by simp
    have ab_W1 := alloc_below w (.cells #[.slice ap np cp, .slice ab nb cb, .slice al nl cl, .int .i64 T, .int .i64 N, .slice aS ns cs, .int .i64 X, .int .i64 C] 33)
    have as_W1 : Hid ((w.alloc (.cells #[.slice ap np cp, .slice ab nb cb, .slice al nl cl, .int .i64 T, .int .i64 N, .slice aS ns cs, .int .i64 X, .int .i64 C] 33)).heap.size = w.heap.size + 1) := hidP (by simp)
    generalize w.alloc (.cells #[.slice ap np cp, .slice ab nb cb, .slice al nl cl, .int .i64 T, .int .i64 N, .slice aS ns cs, .int .i64 X, .int .i64 C] 33) = W1 at *
    have acc_W1 := hidP (ab_W1)
    have sz_W1 : Hid (w.heap.size ≤ W1.heap.size) := hidP ab_W1.size
    clear ab_W1 
    refine (HP.out _ acc_W1.out).mono ?_
    rintro e u0 ⟨rfl, hb0⟩
    have bx0_u0 := (hb0.cell bxL_W1).trans bx0_W1
    have bx1_u0 := (hb0.cell bxL_W1).trans bx1_W1
    have bx2_u0 := (hb0.cell bxL_W1).trans bx2_W1
    have bx3_u0 := (hb0.cell bxL_W1).trans bx3_W1
    have bx4_u0 := (hb0.cell bxL_W1).trans bx4_W1
    have bx5_u0 := (hb0.cell bxL_W1).trans bx5_W1
    have bx6_u0 := (hb0.cell bxL_W1).trans bx6_W1
    have bx7_u0 := (hb0.cell bxL_W1).trans bx7_W1
    have bxF_u0 : ∀ o, u0.frozen? ⟨w.heap.size, o, none⟩ = false := fun o => (hb0.frozen bxL_W1).trans (bxF_W1 o)
    have bxL_u0 : w.heap.size < u0.heap.size := Nat.lt_of_lt_of_le bxL_W1 hb0.size
    have acc_u0 := hidP (acc_W1.out.trans (hb0.mono acc_W1.out.size))
    have sz_u0 : Hid (W1.heap.size ≤ u0.heap.size) := hidP hb0.size
    clear hb0 bx0_W1 bx1_W1 bx2_W1 bx3_W1 bx4_W1 bx5_W1 bx6_W1 bx7_W1 bxF_W1 bxL_W1 acc_W1
    go_wp2_with fail
    go_ret
    exact ⟨rfl, acc_u0.out⟩

set_option maxRecDepth 10000 in
set_option maxHeartbeats 4000000 in
theorem toState_any (ap : Option Addr) (np cp : Nat) (ab : Option Addr) (nb cb : Nat) (al : Option Addr) (nl cl : Nat) (T N : Int) (aS : Option Addr) (ns cs : Nat) (X C : Int) (ps : List Pl) (bs : List Bk) (ls : List Ls) (ss : List Ss) (w : World) (hnp : np = ps.length) (hnb : nb = bs.length) (hnl : nl = ls.length) (hns : ns = ss.length) (hP : RowG KPl w ap ps) (hK : RowG KBk w ab bs) (hL : RowG KLs w al ls) (hS : RowG KSs w aS ss) (hlp : np ≤ 1048576) (hlb : nb ≤ 1048576) (hll : nl ≤ 1048576) (hls : ns ≤ 1048576) :
    Calls Try.prog 6 #[.agg #[.slice ap np cp, .slice ab nb cb, .slice al nl cl, .int .i64 T, .int .i64 N, .slice aS ns cs, .int .i64 X, .int .i64 C]] w fun e w' => ∃ g h i j, e = .returned (.agg #[.slice (some ⟨g, 0, none⟩) np np, .slice (some ⟨h, 0, none⟩) nb nb, .slice (some ⟨i, 0, none⟩) nl nl, .int .i64 T, .int .i64 N, .slice (some ⟨j, 0, none⟩) ns ns, .int .i64 X, .int .i64 C]) ∧ OwnG KPl 58 w' w.heap.size (.slice (some ⟨g, 0, none⟩) np np) ps ∧ OwnG KBk 60 w' w.heap.size (.slice (some ⟨h, 0, none⟩) nb nb) bs ∧ OwnG KLs 62 w' w.heap.size (.slice (some ⟨i, 0, none⟩) nl nl) ls ∧ OwnG KSs 64 w' w.heap.size (.slice (some ⟨j, 0, none⟩) ns ns) ss ∧ Below w.heap.size w w' := by
  have HP := hidP (fun W h => toPlan_any ap np cp ab nb cb ps bs W hnp hnb (hP.later h) (hK.later h) hlp hlb)
  have HB := hidP (fun W h => toBook_any al nl cl T N ls W hnl (hL.later h) hll)
  have HD := hidP (fun W h => toDesk_any aS ns cs X ss W hns (hS.later h) hls)
  clear hP hK hL hS hnp hnb hnl hns
  go_enter Try.func6, Try.ntmps6
  go_wp2_with fail
  obtain ⟨la0_W1, la1_W1, la2_W1, la3_W1, la4_W1, la5_W1, la6_W1, la7_W1⟩ := bx8 w 33 (.slice ap np cp) (.slice ab nb cb) (.slice al nl cl) (.int .i64 T) (.int .i64 N) (.slice aS ns cs) (.int .i64 X) (.int .i64 C)
  have laF_W1 : ∀ o, (w.alloc (.cells #[.slice ap np cp, .slice ab nb cb, .slice al nl cl, .int .i64 T, .int .i64 N, .slice aS ns cs, .int .i64 X, .int .i64 C] 33)).frozen? ⟨w.heap.size, o, none⟩ = false := fun o => by simp [go_sem]
  have laL_W1 : w.heap.size < (w.alloc (.cells #[.slice ap np cp, .slice ab nb cb, .slice al nl cl, .int .i64 T, .int .i64 N, .slice aS ns cs, .int .i64 X, .int .i64 C] 33)).heap.size := by simp
  have ab_W1 := alloc_below w (.cells #[.slice ap np cp, .slice ab nb cb, .slice al nl cl, .int .i64 T, .int .i64 N, .slice aS ns cs, .int .i64 X, .int .i64 C] 33)
  have as_W1 : Hid ((w.alloc (.cells #[.slice ap np cp, .slice ab nb cb, .slice al nl cl, .int .i64 T, .int .i64 N, .slice aS ns cs, .int .i64 X, .int .i64 C] 33)).heap.size = w.heap.size + 1) := hidP (by simp)
  generalize w.alloc (.cells #[.slice ap np cp, .slice ab nb cb, .slice al nl cl, .int .i64 T, .int .i64 N, .slice aS ns cs, .int .i64 X, .int .i64 C] 33) = W1 at *
  have acc_W1 := hidP (ab_W1)
  have sz_W1 : Hid (w.heap.size ≤ W1.heap.size) := hidP ab_W1.size
  clear ab_W1 
  obtain ⟨re0_W2, re1_W2, re2_W2, re3_W2, re4_W2, re5_W2, re6_W2, re7_W2⟩ := bx8 W1 47 (.slice none 0 0) (.slice none 0 0) (.slice none 0 0) (.int .i64 0) (.int .i64 0) (.slice none 0 0) (.int .i64 0) (.int .i64 0)
  have reF_W2 : ∀ o, (W1.alloc (.cells #[.slice none 0 0, .slice none 0 0, .slice none 0 0, .int .i64 0, .int .i64 0, .slice none 0 0, .int .i64 0, .int .i64 0] 47)).frozen? ⟨W1.heap.size, o, none⟩ = false := fun o => by simp [go_sem]
  have reL_W2 : W1.heap.size < (W1.alloc (.cells #[.slice none 0 0, .slice none 0 0, .slice none 0 0, .int .i64 0, .int .i64 0, .slice none 0 0, .int .i64 0, .int .i64 0] 47)).heap.size := by simp
  have ab_W2 := alloc_below W1 (.cells #[.slice none 0 0, .slice none 0 0, .slice none 0 0, .int .i64 0, .int .i64 0, .slice none 0 0, .int .i64 0, .int .i64 0] 47)
  have as_W2 : Hid ((W1.alloc (.cells #[.slice none 0 0, .slice none 0 0, .slice none 0 0, .int .i64 0, .int .i64 0, .slice none 0 0, .int .i64 0, .int .i64 0] 47)).heap.size = W1.heap.size + 1) := hidP (by simp)
  generalize W1.alloc (.cells #[.slice none 0 0, .slice none 0 0, .slice none 0 0, .int .i64 0, .int .i64 0, .slice none 0 0, .int .i64 0, .int .i64 0] 47) = W2 at *
  have la0_W2 := (ab_W2.cell laL_W1).trans la0_W1
  have la1_W2 := (ab_W2.cell laL_W1).trans la1_W1
  have la2_W2 := (ab_W2.cell laL_W1).trans la2_W1
  have la3_W2 := (ab_W2.cell laL_W1).trans la3_W1
  have la4_W2 := (ab_W2.cell laL_W1).trans la4_W1
  have la5_W2 := (ab_W2.cell laL_W1).trans la5_W1
  have la6_W2 := (ab_W2.cell laL_W1).trans la6_W1
  have la7_W2 := (ab_W2.cell laL_W1).trans la7_W1
  have laF_W2 : ∀ o, W2.frozen? ⟨w.heap.size, o, none⟩ = false := fun o => (ab_W2.frozen laL_W1).trans (laF_W1 o)
  have laL_W2 : w.heap.size < W2.heap.size := Nat.lt_of_lt_of_le laL_W1 ab_W2.size
  have acc_W2 := hidP (acc_W1.out.trans (ab_W2.mono acc_W1.out.size))
  have sz_W2 : Hid (W1.heap.size ≤ W2.heap.size) := hidP ab_W2.size
  clear ab_W2 la0_W1 la1_W1 la2_W1 la3_W1 la4_W1 la5_W1 la6_W1 la7_W1 laF_W1 laL_W1 acc_W1
  obtain ⟨ou0_W3, ou1_W3, ou2_W3, ou3_W3, ou4_W3, ou5_W3, ou6_W3, ou7_W3⟩ := bx8 W2 47 (.slice none 0 0) (.slice none 0 0) (.slice none 0 0) (.int .i64 0) (.int .i64 0) (.slice none 0 0) (.int .i64 0) (.int .i64 0)
  have ouF_W3 : ∀ o, (W2.alloc (.cells #[.slice none 0 0, .slice none 0 0, .slice none 0 0, .int .i64 0, .int .i64 0, .slice none 0 0, .int .i64 0, .int .i64 0] 47)).frozen? ⟨W2.heap.size, o, none⟩ = false := fun o => by simp [go_sem]
  have ouL_W3 : W2.heap.size < (W2.alloc (.cells #[.slice none 0 0, .slice none 0 0, .slice none 0 0, .int .i64 0, .int .i64 0, .slice none 0 0, .int .i64 0, .int .i64 0] 47)).heap.size := by simp
  have ab_W3 := alloc_below W2 (.cells #[.slice none 0 0, .slice none 0 0, .slice none 0 0, .int .i64 0, .int .i64 0, .slice none 0 0, .int .i64 0, .int .i64 0] 47)
  have as_W3 : Hid ((W2.alloc (.cells #[.slice none 0 0, .slice none 0 0, .slice none 0 0, .int .i64 0, .int .i64 0, .slice none 0 0, .int .i64 0, .int .i64 0] 47)).heap.size = W2.heap.size + 1) := hidP (by simp)
  generalize W2.alloc (.cells #[.slice none 0 0, .slice none 0 0, .slice none 0 0, .int .i64 0, .int .i64 0, .slice none 0 0, .int .i64 0, .int .i64 0] 47) = W3 at *
  have la0_W3 := (ab_W3.cell laL_W2).trans la0_W2
  have la1_W3 := (ab_W3.cell laL_W2).trans la1_W2
  have la2_W3 := (ab_W3.cell laL_W2).trans la2_W2
  have la3_W3 := (ab_W3.cell laL_W2).trans la3_W2
  have la4_W3 := (ab_W3.cell laL_W2).trans la4_W2
  have la5_W3 := (ab_W3.cell laL_W2).trans la5_W2
  have la6_W3 := (ab_W3.cell laL_W2).trans la6_W2
  have la7_W3 := (ab_W3.cell laL_W2).trans la7_W2
  have laF_W3 : ∀ o, W3.frozen? ⟨w.heap.size, o, none⟩ = false := fun o => (ab_W3.frozen laL_W2).trans (laF_W2 o)
  have laL_W3 : w.heap.size < W3.heap.size := Nat.lt_of_lt_of_le laL_W2 ab_W3.size
  have re0_W3 := (ab_W3.cell reL_W2).trans re0_W2
  have re1_W3 := (ab_W3.cell reL_W2).trans re1_W2
  have re2_W3 := (ab_W3.cell reL_W2).trans re2_W2
  have re3_W3 := (ab_W3.cell reL_W2).trans re3_W2
  have re4_W3 := (ab_W3.cell reL_W2).trans re4_W2
  have re5_W3 := (ab_W3.cell reL_W2).trans re5_W2
  have re6_W3 := (ab_W3.cell reL_W2).trans re6_W2
  have re7_W3 := (ab_W3.cell reL_W2).trans re7_W2
  have reF_W3 : ∀ o, W3.frozen? ⟨W1.heap.size, o, none⟩ = false := fun o => (ab_W3.frozen reL_W2).trans (reF_W2 o)
  have reL_W3 : W1.heap.size < W3.heap.size := Nat.lt_of_lt_of_le reL_W2 ab_W3.size
  have acc_W3 := hidP (acc_W2.out.trans (ab_W3.mono acc_W2.out.size))
  have sz_W3 : Hid (W2.heap.size ≤ W3.heap.size) := hidP ab_W3.size
  clear ab_W3 la0_W2 la1_W2 la2_W2 la3_W2 la4_W2 la5_W2 la6_W2 la7_W2 laF_W2 laL_W2 re0_W2 re1_W2 re2_W2 re3_W2 re4_W2 re5_W2 re6_W2 re7_W2 reF_W2 reL_W2 acc_W2
  simp only [as_W1.out] at re0_W3 re1_W3 re2_W3 re3_W3 re4_W3 re5_W3 re6_W3 re7_W3 reF_W3 reL_W3
  simp only [as_W2.out, as_W1.out] at ou0_W3 ou1_W3 ou2_W3 ou3_W3 ou4_W3 ou5_W3 ou6_W3 ou7_W3 ouF_W3 ouL_W3
  have Wz : Hid (W3.heap.size = w.heap.size + 3) := hidP (by have := as_W1.out; have := as_W2.out; have := as_W3.out; omega)
  refine (HP.out _ acc_W3.out).mono ?_
  rintro e u1 ⟨g, h, rfl, og, oh, _, hb1⟩
  have OG := hidP og
  have OH := hidP oh
  clear og oh
  have la0_u1 := (hb1.cell laL_W3).trans la0_W3
  have la1_u1 := (hb1.cell laL_W3).trans la1_W3
  have la2_u1 := (hb1.cell laL_W3).trans la2_W3
  have la3_u1 := (hb1.cell laL_W3).trans la3_W3
  have la4_u1 := (hb1.cell laL_W3).trans la4_W3
  have la5_u1 := (hb1.cell laL_W3).trans la5_W3
  have la6_u1 := (hb1.cell laL_W3).trans la6_W3
  have la7_u1 := (hb1.cell laL_W3).trans la7_W3
  have laF_u1 : ∀ o, u1.frozen? ⟨w.heap.size, o, none⟩ = false := fun o => (hb1.frozen laL_W3).trans (laF_W3 o)
  have laL_u1 : w.heap.size < u1.heap.size := Nat.lt_of_lt_of_le laL_W3 hb1.size
  have re0_u1 := (hb1.cell reL_W3).trans re0_W3
  have re1_u1 := (hb1.cell reL_W3).trans re1_W3
  have re2_u1 := (hb1.cell reL_W3).trans re2_W3
  have re3_u1 := (hb1.cell reL_W3).trans re3_W3
  have re4_u1 := (hb1.cell reL_W3).trans re4_W3
  have re5_u1 := (hb1.cell reL_W3).trans re5_W3
  have re6_u1 := (hb1.cell reL_W3).trans re6_W3
  have re7_u1 := (hb1.cell reL_W3).trans re7_W3
  have reF_u1 : ∀ o, u1.frozen? ⟨(w.heap.size + 1), o, none⟩ = false := fun o => (hb1.frozen reL_W3).trans (reF_W3 o)
  have reL_u1 : (w.heap.size + 1) < u1.heap.size := Nat.lt_of_lt_of_le reL_W3 hb1.size
  have ou0_u1 := (hb1.cell ouL_W3).trans ou0_W3
  have ou1_u1 := (hb1.cell ouL_W3).trans ou1_W3
  have ou2_u1 := (hb1.cell ouL_W3).trans ou2_W3
  have ou3_u1 := (hb1.cell ouL_W3).trans ou3_W3
  have ou4_u1 := (hb1.cell ouL_W3).trans ou4_W3
  have ou5_u1 := (hb1.cell ouL_W3).trans ou5_W3
  have ou6_u1 := (hb1.cell ouL_W3).trans ou6_W3
  have ou7_u1 := (hb1.cell ouL_W3).trans ou7_W3
  have ouF_u1 : ∀ o, u1.frozen? ⟨(w.heap.size + 2), o, none⟩ = false := fun o => (hb1.frozen ouL_W3).trans (ouF_W3 o)
  have ouL_u1 : (w.heap.size + 2) < u1.heap.size := Nat.lt_of_lt_of_le ouL_W3 hb1.size
  have acc_u1 := hidP (acc_W3.out.trans (hb1.mono acc_W3.out.size))
  have sz_u1 : Hid (W3.heap.size ≤ u1.heap.size) := hidP hb1.size
  clear hb1 la0_W3 la1_W3 la2_W3 la3_W3 la4_W3 la5_W3 la6_W3 la7_W3 laF_W3 laL_W3 re0_W3 re1_W3 re2_W3 re3_W3 re4_W3 re5_W3 re6_W3 re7_W3 reF_W3 reL_W3 ou0_W3 ou1_W3 ou2_W3 ou3_W3 ou4_W3 ou5_W3 ou6_W3 ou7_W3 ouF_W3 ouL_W3 acc_W3
  have oG_u1 := hidP (OG.out.mono (B' := w.heap.size + 3) (by have := Wz.out; omega))
  have oH_u1 := hidP (OH.out.mono (B' := w.heap.size + 3) (by have := Wz.out; omega))
  clear OG OH
  go_wp2_with fail
  have ou0_W4 : ((u1.setCell ⟨(w.heap.size + 2), 0, none⟩ (.slice (some ⟨g, 0, none⟩) np np)).setCell ⟨(w.heap.size + 2), 1, none⟩ (.slice (some ⟨h, 0, none⟩) nb nb)).cell? ⟨(w.heap.size + 2), 0, none⟩ = some (.slice (some ⟨g, 0, none⟩) np np) := by simp [go_sem, ou0_u1]
  have ou1_W4 : ((u1.setCell ⟨(w.heap.size + 2), 0, none⟩ (.slice (some ⟨g, 0, none⟩) np np)).setCell ⟨(w.heap.size + 2), 1, none⟩ (.slice (some ⟨h, 0, none⟩) nb nb)).cell? ⟨(w.heap.size + 2), 1, none⟩ = some (.slice (some ⟨h, 0, none⟩) nb nb) := by simp [go_sem, ou1_u1]
  have ou2_W4 : ((u1.setCell ⟨(w.heap.size + 2), 0, none⟩ (.slice (some ⟨g, 0, none⟩) np np)).setCell ⟨(w.heap.size + 2), 1, none⟩ (.slice (some ⟨h, 0, none⟩) nb nb)).cell? ⟨(w.heap.size + 2), 2, none⟩ = some (.slice none 0 0) := by simp [go_sem, ou2_u1]
  have ou3_W4 : ((u1.setCell ⟨(w.heap.size + 2), 0, none⟩ (.slice (some ⟨g, 0, none⟩) np np)).setCell ⟨(w.heap.size + 2), 1, none⟩ (.slice (some ⟨h, 0, none⟩) nb nb)).cell? ⟨(w.heap.size + 2), 3, none⟩ = some (.int .i64 0) := by simp [go_sem, ou3_u1]
  have ou4_W4 : ((u1.setCell ⟨(w.heap.size + 2), 0, none⟩ (.slice (some ⟨g, 0, none⟩) np np)).setCell ⟨(w.heap.size + 2), 1, none⟩ (.slice (some ⟨h, 0, none⟩) nb nb)).cell? ⟨(w.heap.size + 2), 4, none⟩ = some (.int .i64 0) := by simp [go_sem, ou4_u1]
  have ou5_W4 : ((u1.setCell ⟨(w.heap.size + 2), 0, none⟩ (.slice (some ⟨g, 0, none⟩) np np)).setCell ⟨(w.heap.size + 2), 1, none⟩ (.slice (some ⟨h, 0, none⟩) nb nb)).cell? ⟨(w.heap.size + 2), 5, none⟩ = some (.slice none 0 0) := by simp [go_sem, ou5_u1]
  have ou6_W4 : ((u1.setCell ⟨(w.heap.size + 2), 0, none⟩ (.slice (some ⟨g, 0, none⟩) np np)).setCell ⟨(w.heap.size + 2), 1, none⟩ (.slice (some ⟨h, 0, none⟩) nb nb)).cell? ⟨(w.heap.size + 2), 6, none⟩ = some (.int .i64 0) := by simp [go_sem, ou6_u1]
  have ou7_W4 : ((u1.setCell ⟨(w.heap.size + 2), 0, none⟩ (.slice (some ⟨g, 0, none⟩) np np)).setCell ⟨(w.heap.size + 2), 1, none⟩ (.slice (some ⟨h, 0, none⟩) nb nb)).cell? ⟨(w.heap.size + 2), 7, none⟩ = some (.int .i64 0) := by simp [go_sem, ou7_u1]
  have la0_W4 : ((u1.setCell ⟨(w.heap.size + 2), 0, none⟩ (.slice (some ⟨g, 0, none⟩) np np)).setCell ⟨(w.heap.size + 2), 1, none⟩ (.slice (some ⟨h, 0, none⟩) nb nb)).cell? ⟨w.heap.size, 0, none⟩ = some (.slice ap np cp) := cell_set1 (cell_set1 (la0_u1) (by omega)) (by omega)
  have la1_W4 : ((u1.setCell ⟨(w.heap.size + 2), 0, none⟩ (.slice (some ⟨g, 0, none⟩) np np)).setCell ⟨(w.heap.size + 2), 1, none⟩ (.slice (some ⟨h, 0, none⟩) nb nb)).cell? ⟨w.heap.size, 1, none⟩ = some (.slice ab nb cb) := cell_set1 (cell_set1 (la1_u1) (by omega)) (by omega)
  have la2_W4 : ((u1.setCell ⟨(w.heap.size + 2), 0, none⟩ (.slice (some ⟨g, 0, none⟩) np np)).setCell ⟨(w.heap.size + 2), 1, none⟩ (.slice (some ⟨h, 0, none⟩) nb nb)).cell? ⟨w.heap.size, 2, none⟩ = some (.slice al nl cl) := cell_set1 (cell_set1 (la2_u1) (by omega)) (by omega)
  have la3_W4 : ((u1.setCell ⟨(w.heap.size + 2), 0, none⟩ (.slice (some ⟨g, 0, none⟩) np np)).setCell ⟨(w.heap.size + 2), 1, none⟩ (.slice (some ⟨h, 0, none⟩) nb nb)).cell? ⟨w.heap.size, 3, none⟩ = some (.int .i64 T) := cell_set1 (cell_set1 (la3_u1) (by omega)) (by omega)
  have la4_W4 : ((u1.setCell ⟨(w.heap.size + 2), 0, none⟩ (.slice (some ⟨g, 0, none⟩) np np)).setCell ⟨(w.heap.size + 2), 1, none⟩ (.slice (some ⟨h, 0, none⟩) nb nb)).cell? ⟨w.heap.size, 4, none⟩ = some (.int .i64 N) := cell_set1 (cell_set1 (la4_u1) (by omega)) (by omega)
  have la5_W4 : ((u1.setCell ⟨(w.heap.size + 2), 0, none⟩ (.slice (some ⟨g, 0, none⟩) np np)).setCell ⟨(w.heap.size + 2), 1, none⟩ (.slice (some ⟨h, 0, none⟩) nb nb)).cell? ⟨w.heap.size, 5, none⟩ = some (.slice aS ns cs) := cell_set1 (cell_set1 (la5_u1) (by omega)) (by omega)
  have la6_W4 : ((u1.setCell ⟨(w.heap.size + 2), 0, none⟩ (.slice (some ⟨g, 0, none⟩) np np)).setCell ⟨(w.heap.size + 2), 1, none⟩ (.slice (some ⟨h, 0, none⟩) nb nb)).cell? ⟨w.heap.size, 6, none⟩ = some (.int .i64 X) := cell_set1 (cell_set1 (la6_u1) (by omega)) (by omega)
  have la7_W4 : ((u1.setCell ⟨(w.heap.size + 2), 0, none⟩ (.slice (some ⟨g, 0, none⟩) np np)).setCell ⟨(w.heap.size + 2), 1, none⟩ (.slice (some ⟨h, 0, none⟩) nb nb)).cell? ⟨w.heap.size, 7, none⟩ = some (.int .i64 C) := cell_set1 (cell_set1 (la7_u1) (by omega)) (by omega)
  have laF_W4 : ∀ o, ((u1.setCell ⟨(w.heap.size + 2), 0, none⟩ (.slice (some ⟨g, 0, none⟩) np np)).setCell ⟨(w.heap.size + 2), 1, none⟩ (.slice (some ⟨h, 0, none⟩) nb nb)).frozen? ⟨w.heap.size, o, none⟩ = false := fun o => frz_set1 (frz_set1 ((laF_u1 o)))
  have laL_W4 : w.heap.size < ((u1.setCell ⟨(w.heap.size + 2), 0, none⟩ (.slice (some ⟨g, 0, none⟩) np np)).setCell ⟨(w.heap.size + 2), 1, none⟩ (.slice (some ⟨h, 0, none⟩) nb nb)).heap.size := by simpa using laL_u1
  have re0_W4 : ((u1.setCell ⟨(w.heap.size + 2), 0, none⟩ (.slice (some ⟨g, 0, none⟩) np np)).setCell ⟨(w.heap.size + 2), 1, none⟩ (.slice (some ⟨h, 0, none⟩) nb nb)).cell? ⟨(w.heap.size + 1), 0, none⟩ = some (.slice none 0 0) := cell_set1 (cell_set1 (re0_u1) (by omega)) (by omega)
  have re1_W4 : ((u1.setCell ⟨(w.heap.size + 2), 0, none⟩ (.slice (some ⟨g, 0, none⟩) np np)).setCell ⟨(w.heap.size + 2), 1, none⟩ (.slice (some ⟨h, 0, none⟩) nb nb)).cell? ⟨(w.heap.size + 1), 1, none⟩ = some (.slice none 0 0) := cell_set1 (cell_set1 (re1_u1) (by omega)) (by omega)
  have re2_W4 : ((u1.setCell ⟨(w.heap.size + 2), 0, none⟩ (.slice (some ⟨g, 0, none⟩) np np)).setCell ⟨(w.heap.size + 2), 1, none⟩ (.slice (some ⟨h, 0, none⟩) nb nb)).cell? ⟨(w.heap.size + 1), 2, none⟩ = some (.slice none 0 0) := cell_set1 (cell_set1 (re2_u1) (by omega)) (by omega)
  have re3_W4 : ((u1.setCell ⟨(w.heap.size + 2), 0, none⟩ (.slice (some ⟨g, 0, none⟩) np np)).setCell ⟨(w.heap.size + 2), 1, none⟩ (.slice (some ⟨h, 0, none⟩) nb nb)).cell? ⟨(w.heap.size + 1), 3, none⟩ = some (.int .i64 0) := cell_set1 (cell_set1 (re3_u1) (by omega)) (by omega)
  have re4_W4 : ((u1.setCell ⟨(w.heap.size + 2), 0, none⟩ (.slice (some ⟨g, 0, none⟩) np np)).setCell ⟨(w.heap.size + 2), 1, none⟩ (.slice (some ⟨h, 0, none⟩) nb nb)).cell? ⟨(w.heap.size + 1), 4, none⟩ = some (.int .i64 0) := cell_set1 (cell_set1 (re4_u1) (by omega)) (by omega)
  have re5_W4 : ((u1.setCell ⟨(w.heap.size + 2), 0, none⟩ (.slice (some ⟨g, 0, none⟩) np np)).setCell ⟨(w.heap.size + 2), 1, none⟩ (.slice (some ⟨h, 0, none⟩) nb nb)).cell? ⟨(w.heap.size + 1), 5, none⟩ = some (.slice none 0 0) := cell_set1 (cell_set1 (re5_u1) (by omega)) (by omega)
  have re6_W4 : ((u1.setCell ⟨(w.heap.size + 2), 0, none⟩ (.slice (some ⟨g, 0, none⟩) np np)).setCell ⟨(w.heap.size + 2), 1, none⟩ (.slice (some ⟨h, 0, none⟩) nb nb)).cell? ⟨(w.heap.size + 1), 6, none⟩ = some (.int .i64 0) := cell_set1 (cell_set1 (re6_u1) (by omega)) (by omega)
  have re7_W4 : ((u1.setCell ⟨(w.heap.size + 2), 0, none⟩ (.slice (some ⟨g, 0, none⟩) np np)).setCell ⟨(w.heap.size + 2), 1, none⟩ (.slice (some ⟨h, 0, none⟩) nb nb)).cell? ⟨(w.heap.size + 1), 7, none⟩ = some (.int .i64 0) := cell_set1 (cell_set1 (re7_u1) (by omega)) (by omega)
  have reF_W4 : ∀ o, ((u1.setCell ⟨(w.heap.size + 2), 0, none⟩ (.slice (some ⟨g, 0, none⟩) np np)).setCell ⟨(w.heap.size + 2), 1, none⟩ (.slice (some ⟨h, 0, none⟩) nb nb)).frozen? ⟨(w.heap.size + 1), o, none⟩ = false := fun o => frz_set1 (frz_set1 ((reF_u1 o)))
  have reL_W4 : (w.heap.size + 1) < ((u1.setCell ⟨(w.heap.size + 2), 0, none⟩ (.slice (some ⟨g, 0, none⟩) np np)).setCell ⟨(w.heap.size + 2), 1, none⟩ (.slice (some ⟨h, 0, none⟩) nb nb)).heap.size := by simpa using reL_u1
  have ouF_W4 : ∀ o, ((u1.setCell ⟨(w.heap.size + 2), 0, none⟩ (.slice (some ⟨g, 0, none⟩) np np)).setCell ⟨(w.heap.size + 2), 1, none⟩ (.slice (some ⟨h, 0, none⟩) nb nb)).frozen? ⟨(w.heap.size + 2), o, none⟩ = false := fun o => frz_set1 (frz_set1 ((ouF_u1 o)))
  have ouL_W4 : (w.heap.size + 2) < ((u1.setCell ⟨(w.heap.size + 2), 0, none⟩ (.slice (some ⟨g, 0, none⟩) np np)).setCell ⟨(w.heap.size + 2), 1, none⟩ (.slice (some ⟨h, 0, none⟩) nb nb)).heap.size := by simpa using ouL_u1
  have oG_W4 : Hid (OwnG KPl 58 ((u1.setCell ⟨(w.heap.size + 2), 0, none⟩ (.slice (some ⟨g, 0, none⟩) np np)).setCell ⟨(w.heap.size + 2), 1, none⟩ (.slice (some ⟨h, 0, none⟩) nb nb)) (w.heap.size + 3) (.slice (some ⟨g, 0, none⟩) np np) (ps)) := hidP (OwnG.grown (OwnG.grown (oG_u1.out) (grown_cellG _ _ _ _) (OwnG.ne_of oG_u1.out (by omega))) (grown_cellG _ _ _ _) (OwnG.ne_of oG_u1.out (by omega)))
  have oH_W4 : Hid (OwnG KBk 60 ((u1.setCell ⟨(w.heap.size + 2), 0, none⟩ (.slice (some ⟨g, 0, none⟩) np np)).setCell ⟨(w.heap.size + 2), 1, none⟩ (.slice (some ⟨h, 0, none⟩) nb nb)) (w.heap.size + 3) (.slice (some ⟨h, 0, none⟩) nb nb) (bs)) := hidP (OwnG.grown (OwnG.grown (oH_u1.out) (grown_cellG _ _ _ _) (OwnG.ne_of oH_u1.out (by omega))) (grown_cellG _ _ _ _) (OwnG.ne_of oH_u1.out (by omega)))
  have acc_W4 : Hid (Below w.heap.size w ((u1.setCell ⟨(w.heap.size + 2), 0, none⟩ (.slice (some ⟨g, 0, none⟩) np np)).setCell ⟨(w.heap.size + 2), 1, none⟩ (.slice (some ⟨h, 0, none⟩) nb nb))) := hidP (Below.setCell (Below.setCell (acc_u1.out) (by try dsimp only; omega) _) (by try dsimp only; omega) _)
  have sz_W4 : Hid (((u1.setCell ⟨(w.heap.size + 2), 0, none⟩ (.slice (some ⟨g, 0, none⟩) np np)).setCell ⟨(w.heap.size + 2), 1, none⟩ (.slice (some ⟨h, 0, none⟩) nb nb)).heap.size = u1.heap.size) := hidP (by simp)
  generalize (u1.setCell ⟨(w.heap.size + 2), 0, none⟩ (.slice (some ⟨g, 0, none⟩) np np)).setCell ⟨(w.heap.size + 2), 1, none⟩ (.slice (some ⟨h, 0, none⟩) nb nb) = W4 at *
  clear ou0_u1 ou1_u1 ou2_u1 ou3_u1 ou4_u1 ou5_u1 ou6_u1 ou7_u1 la0_u1 la1_u1 la2_u1 la3_u1 la4_u1 la5_u1 la6_u1 la7_u1 laF_u1 laL_u1 re0_u1 re1_u1 re2_u1 re3_u1 re4_u1 re5_u1 re6_u1 re7_u1 reF_u1 reL_u1 ouF_u1 ouL_u1 oG_u1 oH_u1 acc_u1
  refine (HB.out _ acc_W4.out).mono ?_
  rintro e u2 ⟨i, rfl, oi, hb2⟩
  have OI := hidP oi
  clear oi
  have la0_u2 := (hb2.cell laL_W4).trans la0_W4
  have la1_u2 := (hb2.cell laL_W4).trans la1_W4
  have la2_u2 := (hb2.cell laL_W4).trans la2_W4
  have la3_u2 := (hb2.cell laL_W4).trans la3_W4
  have la4_u2 := (hb2.cell laL_W4).trans la4_W4
  have la5_u2 := (hb2.cell laL_W4).trans la5_W4
  have la6_u2 := (hb2.cell laL_W4).trans la6_W4
  have la7_u2 := (hb2.cell laL_W4).trans la7_W4
  have laF_u2 : ∀ o, u2.frozen? ⟨w.heap.size, o, none⟩ = false := fun o => (hb2.frozen laL_W4).trans (laF_W4 o)
  have laL_u2 : w.heap.size < u2.heap.size := Nat.lt_of_lt_of_le laL_W4 hb2.size
  have re0_u2 := (hb2.cell reL_W4).trans re0_W4
  have re1_u2 := (hb2.cell reL_W4).trans re1_W4
  have re2_u2 := (hb2.cell reL_W4).trans re2_W4
  have re3_u2 := (hb2.cell reL_W4).trans re3_W4
  have re4_u2 := (hb2.cell reL_W4).trans re4_W4
  have re5_u2 := (hb2.cell reL_W4).trans re5_W4
  have re6_u2 := (hb2.cell reL_W4).trans re6_W4
  have re7_u2 := (hb2.cell reL_W4).trans re7_W4
  have reF_u2 : ∀ o, u2.frozen? ⟨(w.heap.size + 1), o, none⟩ = false := fun o => (hb2.frozen reL_W4).trans (reF_W4 o)
  have reL_u2 : (w.heap.size + 1) < u2.heap.size := Nat.lt_of_lt_of_le reL_W4 hb2.size
  have ou0_u2 := (hb2.cell ouL_W4).trans ou0_W4
  have ou1_u2 := (hb2.cell ouL_W4).trans ou1_W4
  have ou2_u2 := (hb2.cell ouL_W4).trans ou2_W4
  have ou3_u2 := (hb2.cell ouL_W4).trans ou3_W4
  have ou4_u2 := (hb2.cell ouL_W4).trans ou4_W4
  have ou5_u2 := (hb2.cell ouL_W4).trans ou5_W4
  have ou6_u2 := (hb2.cell ouL_W4).trans ou6_W4
  have ou7_u2 := (hb2.cell ouL_W4).trans ou7_W4
  have ouF_u2 : ∀ o, u2.frozen? ⟨(w.heap.size + 2), o, none⟩ = false := fun o => (hb2.frozen ouL_W4).trans (ouF_W4 o)
  have ouL_u2 : (w.heap.size + 2) < u2.heap.size := Nat.lt_of_lt_of_le ouL_W4 hb2.size
  have oG_u2 := hidP (OwnG.later oG_W4.out hb2)
  have oH_u2 := hidP (OwnG.later oH_W4.out hb2)
  have acc_u2 := hidP (acc_W4.out.trans (hb2.mono acc_W4.out.size))
  have sz_u2 : Hid (W4.heap.size ≤ u2.heap.size) := hidP hb2.size
  clear hb2 la0_W4 la1_W4 la2_W4 la3_W4 la4_W4 la5_W4 la6_W4 la7_W4 laF_W4 laL_W4 re0_W4 re1_W4 re2_W4 re3_W4 re4_W4 re5_W4 re6_W4 re7_W4 reF_W4 reL_W4 ou0_W4 ou1_W4 ou2_W4 ou3_W4 ou4_W4 ou5_W4 ou6_W4 ou7_W4 ouF_W4 ouL_W4 oG_W4 oH_W4 acc_W4
  have oI_u2 := hidP (OI.out.mono (B' := w.heap.size + 3) (by have := as_W1.out; have := sz_W1.out; have := as_W2.out; have := sz_W2.out; have := as_W3.out; have := sz_W3.out; have := Wz.out; have := sz_u1.out; have := sz_W4.out; have := sz_u2.out; omega))
  clear OI
  go_wp2_with fail
  have ou0_W5 : (((u2.setCell ⟨(w.heap.size + 2), 2, none⟩ (.slice (some ⟨i, 0, none⟩) nl nl)).setCell ⟨(w.heap.size + 2), 3, none⟩ (.int .i64 T)).setCell ⟨(w.heap.size + 2), 4, none⟩ (.int .i64 N)).cell? ⟨(w.heap.size + 2), 0, none⟩ = some (.slice (some ⟨g, 0, none⟩) np np) := by simp [go_sem, ou0_u2]
  have ou1_W5 : (((u2.setCell ⟨(w.heap.size + 2), 2, none⟩ (.slice (some ⟨i, 0, none⟩) nl nl)).setCell ⟨(w.heap.size + 2), 3, none⟩ (.int .i64 T)).setCell ⟨(w.heap.size + 2), 4, none⟩ (.int .i64 N)).cell? ⟨(w.heap.size + 2), 1, none⟩ = some (.slice (some ⟨h, 0, none⟩) nb nb) := by simp [go_sem, ou1_u2]
  have ou2_W5 : (((u2.setCell ⟨(w.heap.size + 2), 2, none⟩ (.slice (some ⟨i, 0, none⟩) nl nl)).setCell ⟨(w.heap.size + 2), 3, none⟩ (.int .i64 T)).setCell ⟨(w.heap.size + 2), 4, none⟩ (.int .i64 N)).cell? ⟨(w.heap.size + 2), 2, none⟩ = some (.slice (some ⟨i, 0, none⟩) nl nl) := by simp [go_sem, ou2_u2]
  have ou3_W5 : (((u2.setCell ⟨(w.heap.size + 2), 2, none⟩ (.slice (some ⟨i, 0, none⟩) nl nl)).setCell ⟨(w.heap.size + 2), 3, none⟩ (.int .i64 T)).setCell ⟨(w.heap.size + 2), 4, none⟩ (.int .i64 N)).cell? ⟨(w.heap.size + 2), 3, none⟩ = some (.int .i64 T) := by simp [go_sem, ou3_u2]
  have ou4_W5 : (((u2.setCell ⟨(w.heap.size + 2), 2, none⟩ (.slice (some ⟨i, 0, none⟩) nl nl)).setCell ⟨(w.heap.size + 2), 3, none⟩ (.int .i64 T)).setCell ⟨(w.heap.size + 2), 4, none⟩ (.int .i64 N)).cell? ⟨(w.heap.size + 2), 4, none⟩ = some (.int .i64 N) := by simp [go_sem, ou4_u2]
  have ou5_W5 : (((u2.setCell ⟨(w.heap.size + 2), 2, none⟩ (.slice (some ⟨i, 0, none⟩) nl nl)).setCell ⟨(w.heap.size + 2), 3, none⟩ (.int .i64 T)).setCell ⟨(w.heap.size + 2), 4, none⟩ (.int .i64 N)).cell? ⟨(w.heap.size + 2), 5, none⟩ = some (.slice none 0 0) := by simp [go_sem, ou5_u2]
  have ou6_W5 : (((u2.setCell ⟨(w.heap.size + 2), 2, none⟩ (.slice (some ⟨i, 0, none⟩) nl nl)).setCell ⟨(w.heap.size + 2), 3, none⟩ (.int .i64 T)).setCell ⟨(w.heap.size + 2), 4, none⟩ (.int .i64 N)).cell? ⟨(w.heap.size + 2), 6, none⟩ = some (.int .i64 0) := by simp [go_sem, ou6_u2]
  have ou7_W5 : (((u2.setCell ⟨(w.heap.size + 2), 2, none⟩ (.slice (some ⟨i, 0, none⟩) nl nl)).setCell ⟨(w.heap.size + 2), 3, none⟩ (.int .i64 T)).setCell ⟨(w.heap.size + 2), 4, none⟩ (.int .i64 N)).cell? ⟨(w.heap.size + 2), 7, none⟩ = some (.int .i64 0) := by simp [go_sem, ou7_u2]
  have la0_W5 : (((u2.setCell ⟨(w.heap.size + 2), 2, none⟩ (.slice (some ⟨i, 0, none⟩) nl nl)).setCell ⟨(w.heap.size + 2), 3, none⟩ (.int .i64 T)).setCell ⟨(w.heap.size + 2), 4, none⟩ (.int .i64 N)).cell? ⟨w.heap.size, 0, none⟩ = some (.slice ap np cp) := cell_set1 (cell_set1 (cell_set1 (la0_u2) (by omega)) (by omega)) (by omega)
  have la1_W5 : (((u2.setCell ⟨(w.heap.size + 2), 2, none⟩ (.slice (some ⟨i, 0, none⟩) nl nl)).setCell ⟨(w.heap.size + 2), 3, none⟩ (.int .i64 T)).setCell ⟨(w.heap.size + 2), 4, none⟩ (.int .i64 N)).cell? ⟨w.heap.size, 1, none⟩ = some (.slice ab nb cb) := cell_set1 (cell_set1 (cell_set1 (la1_u2) (by omega)) (by omega)) (by omega)
  have la2_W5 : (((u2.setCell ⟨(w.heap.size + 2), 2, none⟩ (.slice (some ⟨i, 0, none⟩) nl nl)).setCell ⟨(w.heap.size + 2), 3, none⟩ (.int .i64 T)).setCell ⟨(w.heap.size + 2), 4, none⟩ (.int .i64 N)).cell? ⟨w.heap.size, 2, none⟩ = some (.slice al nl cl) := cell_set1 (cell_set1 (cell_set1 (la2_u2) (by omega)) (by omega)) (by omega)
  have la3_W5 : (((u2.setCell ⟨(w.heap.size + 2), 2, none⟩ (.slice (some ⟨i, 0, none⟩) nl nl)).setCell ⟨(w.heap.size + 2), 3, none⟩ (.int .i64 T)).setCell ⟨(w.heap.size + 2), 4, none⟩ (.int .i64 N)).cell? ⟨w.heap.size, 3, none⟩ = some (.int .i64 T) := cell_set1 (cell_set1 (cell_set1 (la3_u2) (by omega)) (by omega)) (by omega)
  have la4_W5 : (((u2.setCell ⟨(w.heap.size + 2), 2, none⟩ (.slice (some ⟨i, 0, none⟩) nl nl)).setCell ⟨(w.heap.size + 2), 3, none⟩ (.int .i64 T)).setCell ⟨(w.heap.size + 2), 4, none⟩ (.int .i64 N)).cell? ⟨w.heap.size, 4, none⟩ = some (.int .i64 N) := cell_set1 (cell_set1 (cell_set1 (la4_u2) (by omega)) (by omega)) (by omega)
  have la5_W5 : (((u2.setCell ⟨(w.heap.size + 2), 2, none⟩ (.slice (some ⟨i, 0, none⟩) nl nl)).setCell ⟨(w.heap.size + 2), 3, none⟩ (.int .i64 T)).setCell ⟨(w.heap.size + 2), 4, none⟩ (.int .i64 N)).cell? ⟨w.heap.size, 5, none⟩ = some (.slice aS ns cs) := cell_set1 (cell_set1 (cell_set1 (la5_u2) (by omega)) (by omega)) (by omega)
  have la6_W5 : (((u2.setCell ⟨(w.heap.size + 2), 2, none⟩ (.slice (some ⟨i, 0, none⟩) nl nl)).setCell ⟨(w.heap.size + 2), 3, none⟩ (.int .i64 T)).setCell ⟨(w.heap.size + 2), 4, none⟩ (.int .i64 N)).cell? ⟨w.heap.size, 6, none⟩ = some (.int .i64 X) := cell_set1 (cell_set1 (cell_set1 (la6_u2) (by omega)) (by omega)) (by omega)
  have la7_W5 : (((u2.setCell ⟨(w.heap.size + 2), 2, none⟩ (.slice (some ⟨i, 0, none⟩) nl nl)).setCell ⟨(w.heap.size + 2), 3, none⟩ (.int .i64 T)).setCell ⟨(w.heap.size + 2), 4, none⟩ (.int .i64 N)).cell? ⟨w.heap.size, 7, none⟩ = some (.int .i64 C) := cell_set1 (cell_set1 (cell_set1 (la7_u2) (by omega)) (by omega)) (by omega)
  have laF_W5 : ∀ o, (((u2.setCell ⟨(w.heap.size + 2), 2, none⟩ (.slice (some ⟨i, 0, none⟩) nl nl)).setCell ⟨(w.heap.size + 2), 3, none⟩ (.int .i64 T)).setCell ⟨(w.heap.size + 2), 4, none⟩ (.int .i64 N)).frozen? ⟨w.heap.size, o, none⟩ = false := fun o => frz_set1 (frz_set1 (frz_set1 ((laF_u2 o))))
  have laL_W5 : w.heap.size < (((u2.setCell ⟨(w.heap.size + 2), 2, none⟩ (.slice (some ⟨i, 0, none⟩) nl nl)).setCell ⟨(w.heap.size + 2), 3, none⟩ (.int .i64 T)).setCell ⟨(w.heap.size + 2), 4, none⟩ (.int .i64 N)).heap.size := by simpa using laL_u2
  have re0_W5 : (((u2.setCell ⟨(w.heap.size + 2), 2, none⟩ (.slice (some ⟨i, 0, none⟩) nl nl)).setCell ⟨(w.heap.size + 2), 3, none⟩ (.int .i64 T)).setCell ⟨(w.heap.size + 2), 4, none⟩ (.int .i64 N)).cell? ⟨(w.heap.size + 1), 0, none⟩ = some (.slice none 0 0) := cell_set1 (cell_set1 (cell_set1 (re0_u2) (by omega)) (by omega)) (by omega)
  have re1_W5 : (((u2.setCell ⟨(w.heap.size + 2), 2, none⟩ (.slice (some ⟨i, 0, none⟩) nl nl)).setCell ⟨(w.heap.size + 2), 3, none⟩ (.int .i64 T)).setCell ⟨(w.heap.size + 2), 4, none⟩ (.int .i64 N)).cell? ⟨(w.heap.size + 1), 1, none⟩ = some (.slice none 0 0) := cell_set1 (cell_set1 (cell_set1 (re1_u2) (by omega)) (by omega)) (by omega)
  have re2_W5 : (((u2.setCell ⟨(w.heap.size + 2), 2, none⟩ (.slice (some ⟨i, 0, none⟩) nl nl)).setCell ⟨(w.heap.size + 2), 3, none⟩ (.int .i64 T)).setCell ⟨(w.heap.size + 2), 4, none⟩ (.int .i64 N)).cell? ⟨(w.heap.size + 1), 2, none⟩ = some (.slice none 0 0) := cell_set1 (cell_set1 (cell_set1 (re2_u2) (by omega)) (by omega)) (by omega)
  have re3_W5 : (((u2.setCell ⟨(w.heap.size + 2), 2, none⟩ (.slice (some ⟨i, 0, none⟩) nl nl)).setCell ⟨(w.heap.size + 2), 3, none⟩ (.int .i64 T)).setCell ⟨(w.heap.size + 2), 4, none⟩ (.int .i64 N)).cell? ⟨(w.heap.size + 1), 3, none⟩ = some (.int .i64 0) := cell_set1 (cell_set1 (cell_set1 (re3_u2) (by omega)) (by omega)) (by omega)
  have re4_W5 : (((u2.setCell ⟨(w.heap.size + 2), 2, none⟩ (.slice (some ⟨i, 0, none⟩) nl nl)).setCell ⟨(w.heap.size + 2), 3, none⟩ (.int .i64 T)).setCell ⟨(w.heap.size + 2), 4, none⟩ (.int .i64 N)).cell? ⟨(w.heap.size + 1), 4, none⟩ = some (.int .i64 0) := cell_set1 (cell_set1 (cell_set1 (re4_u2) (by omega)) (by omega)) (by omega)
  have re5_W5 : (((u2.setCell ⟨(w.heap.size + 2), 2, none⟩ (.slice (some ⟨i, 0, none⟩) nl nl)).setCell ⟨(w.heap.size + 2), 3, none⟩ (.int .i64 T)).setCell ⟨(w.heap.size + 2), 4, none⟩ (.int .i64 N)).cell? ⟨(w.heap.size + 1), 5, none⟩ = some (.slice none 0 0) := cell_set1 (cell_set1 (cell_set1 (re5_u2) (by omega)) (by omega)) (by omega)
  have re6_W5 : (((u2.setCell ⟨(w.heap.size + 2), 2, none⟩ (.slice (some ⟨i, 0, none⟩) nl nl)).setCell ⟨(w.heap.size + 2), 3, none⟩ (.int .i64 T)).setCell ⟨(w.heap.size + 2), 4, none⟩ (.int .i64 N)).cell? ⟨(w.heap.size + 1), 6, none⟩ = some (.int .i64 0) := cell_set1 (cell_set1 (cell_set1 (re6_u2) (by omega)) (by omega)) (by omega)
  have re7_W5 : (((u2.setCell ⟨(w.heap.size + 2), 2, none⟩ (.slice (some ⟨i, 0, none⟩) nl nl)).setCell ⟨(w.heap.size + 2), 3, none⟩ (.int .i64 T)).setCell ⟨(w.heap.size + 2), 4, none⟩ (.int .i64 N)).cell? ⟨(w.heap.size + 1), 7, none⟩ = some (.int .i64 0) := cell_set1 (cell_set1 (cell_set1 (re7_u2) (by omega)) (by omega)) (by omega)
  have reF_W5 : ∀ o, (((u2.setCell ⟨(w.heap.size + 2), 2, none⟩ (.slice (some ⟨i, 0, none⟩) nl nl)).setCell ⟨(w.heap.size + 2), 3, none⟩ (.int .i64 T)).setCell ⟨(w.heap.size + 2), 4, none⟩ (.int .i64 N)).frozen? ⟨(w.heap.size + 1), o, none⟩ = false := fun o => frz_set1 (frz_set1 (frz_set1 ((reF_u2 o))))
  have reL_W5 : (w.heap.size + 1) < (((u2.setCell ⟨(w.heap.size + 2), 2, none⟩ (.slice (some ⟨i, 0, none⟩) nl nl)).setCell ⟨(w.heap.size + 2), 3, none⟩ (.int .i64 T)).setCell ⟨(w.heap.size + 2), 4, none⟩ (.int .i64 N)).heap.size := by simpa using reL_u2
  have ouF_W5 : ∀ o, (((u2.setCell ⟨(w.heap.size + 2), 2, none⟩ (.slice (some ⟨i, 0, none⟩) nl nl)).setCell ⟨(w.heap.size + 2), 3, none⟩ (.int .i64 T)).setCell ⟨(w.heap.size + 2), 4, none⟩ (.int .i64 N)).frozen? ⟨(w.heap.size + 2), o, none⟩ = false := fun o => frz_set1 (frz_set1 (frz_set1 ((ouF_u2 o))))
  have ouL_W5 : (w.heap.size + 2) < (((u2.setCell ⟨(w.heap.size + 2), 2, none⟩ (.slice (some ⟨i, 0, none⟩) nl nl)).setCell ⟨(w.heap.size + 2), 3, none⟩ (.int .i64 T)).setCell ⟨(w.heap.size + 2), 4, none⟩ (.int .i64 N)).heap.size := by simpa using ouL_u2
  have oG_W5 : Hid (OwnG KPl 58 (((u2.setCell ⟨(w.heap.size + 2), 2, none⟩ (.slice (some ⟨i, 0, none⟩) nl nl)).setCell ⟨(w.heap.size + 2), 3, none⟩ (.int .i64 T)).setCell ⟨(w.heap.size + 2), 4, none⟩ (.int .i64 N)) (w.heap.size + 3) (.slice (some ⟨g, 0, none⟩) np np) (ps)) := hidP (OwnG.grown (OwnG.grown (OwnG.grown (oG_u2.out) (grown_cellG _ _ _ _) (OwnG.ne_of oG_u2.out (by omega))) (grown_cellG _ _ _ _) (OwnG.ne_of oG_u2.out (by omega))) (grown_cellG _ _ _ _) (OwnG.ne_of oG_u2.out (by omega)))
  have oH_W5 : Hid (OwnG KBk 60 (((u2.setCell ⟨(w.heap.size + 2), 2, none⟩ (.slice (some ⟨i, 0, none⟩) nl nl)).setCell ⟨(w.heap.size + 2), 3, none⟩ (.int .i64 T)).setCell ⟨(w.heap.size + 2), 4, none⟩ (.int .i64 N)) (w.heap.size + 3) (.slice (some ⟨h, 0, none⟩) nb nb) (bs)) := hidP (OwnG.grown (OwnG.grown (OwnG.grown (oH_u2.out) (grown_cellG _ _ _ _) (OwnG.ne_of oH_u2.out (by omega))) (grown_cellG _ _ _ _) (OwnG.ne_of oH_u2.out (by omega))) (grown_cellG _ _ _ _) (OwnG.ne_of oH_u2.out (by omega)))
  have oI_W5 : Hid (OwnG KLs 62 (((u2.setCell ⟨(w.heap.size + 2), 2, none⟩ (.slice (some ⟨i, 0, none⟩) nl nl)).setCell ⟨(w.heap.size + 2), 3, none⟩ (.int .i64 T)).setCell ⟨(w.heap.size + 2), 4, none⟩ (.int .i64 N)) (w.heap.size + 3) (.slice (some ⟨i, 0, none⟩) nl nl) (ls)) := hidP (OwnG.grown (OwnG.grown (OwnG.grown (oI_u2.out) (grown_cellG _ _ _ _) (OwnG.ne_of oI_u2.out (by omega))) (grown_cellG _ _ _ _) (OwnG.ne_of oI_u2.out (by omega))) (grown_cellG _ _ _ _) (OwnG.ne_of oI_u2.out (by omega)))
  have acc_W5 : Hid (Below w.heap.size w (((u2.setCell ⟨(w.heap.size + 2), 2, none⟩ (.slice (some ⟨i, 0, none⟩) nl nl)).setCell ⟨(w.heap.size + 2), 3, none⟩ (.int .i64 T)).setCell ⟨(w.heap.size + 2), 4, none⟩ (.int .i64 N))) := hidP (Below.setCell (Below.setCell (Below.setCell (acc_u2.out) (by try dsimp only; omega) _) (by try dsimp only; omega) _) (by try dsimp only; omega) _)
  have sz_W5 : Hid ((((u2.setCell ⟨(w.heap.size + 2), 2, none⟩ (.slice (some ⟨i, 0, none⟩) nl nl)).setCell ⟨(w.heap.size + 2), 3, none⟩ (.int .i64 T)).setCell ⟨(w.heap.size + 2), 4, none⟩ (.int .i64 N)).heap.size = u2.heap.size) := hidP (by simp)
  generalize ((u2.setCell ⟨(w.heap.size + 2), 2, none⟩ (.slice (some ⟨i, 0, none⟩) nl nl)).setCell ⟨(w.heap.size + 2), 3, none⟩ (.int .i64 T)).setCell ⟨(w.heap.size + 2), 4, none⟩ (.int .i64 N) = W5 at *
  clear ou0_u2 ou1_u2 ou2_u2 ou3_u2 ou4_u2 ou5_u2 ou6_u2 ou7_u2 la0_u2 la1_u2 la2_u2 la3_u2 la4_u2 la5_u2 la6_u2 la7_u2 laF_u2 laL_u2 re0_u2 re1_u2 re2_u2 re3_u2 re4_u2 re5_u2 re6_u2 re7_u2 reF_u2 reL_u2 ouF_u2 ouL_u2 oG_u2 oH_u2 oI_u2 acc_u2
  refine (HD.out _ acc_W5.out).mono ?_
  rintro e u3 ⟨j, rfl, oj, hb3⟩
  have OJ := hidP oj
  clear oj
  have la0_u3 := (hb3.cell laL_W5).trans la0_W5
  have la1_u3 := (hb3.cell laL_W5).trans la1_W5
  have la2_u3 := (hb3.cell laL_W5).trans la2_W5
  have la3_u3 := (hb3.cell laL_W5).trans la3_W5
  have la4_u3 := (hb3.cell laL_W5).trans la4_W5
  have la5_u3 := (hb3.cell laL_W5).trans la5_W5
  have la6_u3 := (hb3.cell laL_W5).trans la6_W5
  have la7_u3 := (hb3.cell laL_W5).trans la7_W5
  have laF_u3 : ∀ o, u3.frozen? ⟨w.heap.size, o, none⟩ = false := fun o => (hb3.frozen laL_W5).trans (laF_W5 o)
  have laL_u3 : w.heap.size < u3.heap.size := Nat.lt_of_lt_of_le laL_W5 hb3.size
  have re0_u3 := (hb3.cell reL_W5).trans re0_W5
  have re1_u3 := (hb3.cell reL_W5).trans re1_W5
  have re2_u3 := (hb3.cell reL_W5).trans re2_W5
  have re3_u3 := (hb3.cell reL_W5).trans re3_W5
  have re4_u3 := (hb3.cell reL_W5).trans re4_W5
  have re5_u3 := (hb3.cell reL_W5).trans re5_W5
  have re6_u3 := (hb3.cell reL_W5).trans re6_W5
  have re7_u3 := (hb3.cell reL_W5).trans re7_W5
  have reF_u3 : ∀ o, u3.frozen? ⟨(w.heap.size + 1), o, none⟩ = false := fun o => (hb3.frozen reL_W5).trans (reF_W5 o)
  have reL_u3 : (w.heap.size + 1) < u3.heap.size := Nat.lt_of_lt_of_le reL_W5 hb3.size
  have ou0_u3 := (hb3.cell ouL_W5).trans ou0_W5
  have ou1_u3 := (hb3.cell ouL_W5).trans ou1_W5
  have ou2_u3 := (hb3.cell ouL_W5).trans ou2_W5
  have ou3_u3 := (hb3.cell ouL_W5).trans ou3_W5
  have ou4_u3 := (hb3.cell ouL_W5).trans ou4_W5
  have ou5_u3 := (hb3.cell ouL_W5).trans ou5_W5
  have ou6_u3 := (hb3.cell ouL_W5).trans ou6_W5
  have ou7_u3 := (hb3.cell ouL_W5).trans ou7_W5
  have ouF_u3 : ∀ o, u3.frozen? ⟨(w.heap.size + 2), o, none⟩ = false := fun o => (hb3.frozen ouL_W5).trans (ouF_W5 o)
  have ouL_u3 : (w.heap.size + 2) < u3.heap.size := Nat.lt_of_lt_of_le ouL_W5 hb3.size
  have oG_u3 := hidP (OwnG.later oG_W5.out hb3)
  have oH_u3 := hidP (OwnG.later oH_W5.out hb3)
  have oI_u3 := hidP (OwnG.later oI_W5.out hb3)
  have acc_u3 := hidP (acc_W5.out.trans (hb3.mono acc_W5.out.size))
  have sz_u3 : Hid (W5.heap.size ≤ u3.heap.size) := hidP hb3.size
  clear hb3 la0_W5 la1_W5 la2_W5 la3_W5 la4_W5 la5_W5 la6_W5 la7_W5 laF_W5 laL_W5 re0_W5 re1_W5 re2_W5 re3_W5 re4_W5 re5_W5 re6_W5 re7_W5 reF_W5 reL_W5 ou0_W5 ou1_W5 ou2_W5 ou3_W5 ou4_W5 ou5_W5 ou6_W5 ou7_W5 ouF_W5 ouL_W5 oG_W5 oH_W5 oI_W5 acc_W5
  have oJ_u3 := hidP (OJ.out.mono (B' := w.heap.size + 3) (by have := as_W1.out; have := sz_W1.out; have := as_W2.out; have := sz_W2.out; have := as_W3.out; have := sz_W3.out; have := Wz.out; have := sz_u1.out; have := sz_W4.out; have := sz_u2.out; have := sz_W5.out; have := sz_u3.out; omega))
  clear OJ
  go_wp2_with fail
  have ou0_W6 : (((u3.setCell ⟨(w.heap.size + 2), 5, none⟩ (.slice (some ⟨j, 0, none⟩) ns ns)).setCell ⟨(w.heap.size + 2), 6, none⟩ (.int .i64 X)).setCell ⟨(w.heap.size + 2), 7, none⟩ (.int .i64 C)).cell? ⟨(w.heap.size + 2), 0, none⟩ = some (.slice (some ⟨g, 0, none⟩) np np) := by simp [go_sem, ou0_u3]
  have ou1_W6 : (((u3.setCell ⟨(w.heap.size + 2), 5, none⟩ (.slice (some ⟨j, 0, none⟩) ns ns)).setCell ⟨(w.heap.size + 2), 6, none⟩ (.int .i64 X)).setCell ⟨(w.heap.size + 2), 7, none⟩ (.int .i64 C)).cell? ⟨(w.heap.size + 2), 1, none⟩ = some (.slice (some ⟨h, 0, none⟩) nb nb) := by simp [go_sem, ou1_u3]
  have ou2_W6 : (((u3.setCell ⟨(w.heap.size + 2), 5, none⟩ (.slice (some ⟨j, 0, none⟩) ns ns)).setCell ⟨(w.heap.size + 2), 6, none⟩ (.int .i64 X)).setCell ⟨(w.heap.size + 2), 7, none⟩ (.int .i64 C)).cell? ⟨(w.heap.size + 2), 2, none⟩ = some (.slice (some ⟨i, 0, none⟩) nl nl) := by simp [go_sem, ou2_u3]
  have ou3_W6 : (((u3.setCell ⟨(w.heap.size + 2), 5, none⟩ (.slice (some ⟨j, 0, none⟩) ns ns)).setCell ⟨(w.heap.size + 2), 6, none⟩ (.int .i64 X)).setCell ⟨(w.heap.size + 2), 7, none⟩ (.int .i64 C)).cell? ⟨(w.heap.size + 2), 3, none⟩ = some (.int .i64 T) := by simp [go_sem, ou3_u3]
  have ou4_W6 : (((u3.setCell ⟨(w.heap.size + 2), 5, none⟩ (.slice (some ⟨j, 0, none⟩) ns ns)).setCell ⟨(w.heap.size + 2), 6, none⟩ (.int .i64 X)).setCell ⟨(w.heap.size + 2), 7, none⟩ (.int .i64 C)).cell? ⟨(w.heap.size + 2), 4, none⟩ = some (.int .i64 N) := by simp [go_sem, ou4_u3]
  have ou5_W6 : (((u3.setCell ⟨(w.heap.size + 2), 5, none⟩ (.slice (some ⟨j, 0, none⟩) ns ns)).setCell ⟨(w.heap.size + 2), 6, none⟩ (.int .i64 X)).setCell ⟨(w.heap.size + 2), 7, none⟩ (.int .i64 C)).cell? ⟨(w.heap.size + 2), 5, none⟩ = some (.slice (some ⟨j, 0, none⟩) ns ns) := by simp [go_sem, ou5_u3]
  have ou6_W6 : (((u3.setCell ⟨(w.heap.size + 2), 5, none⟩ (.slice (some ⟨j, 0, none⟩) ns ns)).setCell ⟨(w.heap.size + 2), 6, none⟩ (.int .i64 X)).setCell ⟨(w.heap.size + 2), 7, none⟩ (.int .i64 C)).cell? ⟨(w.heap.size + 2), 6, none⟩ = some (.int .i64 X) := by simp [go_sem, ou6_u3]
  have ou7_W6 : (((u3.setCell ⟨(w.heap.size + 2), 5, none⟩ (.slice (some ⟨j, 0, none⟩) ns ns)).setCell ⟨(w.heap.size + 2), 6, none⟩ (.int .i64 X)).setCell ⟨(w.heap.size + 2), 7, none⟩ (.int .i64 C)).cell? ⟨(w.heap.size + 2), 7, none⟩ = some (.int .i64 C) := by simp [go_sem, ou7_u3]
  have la0_W6 : (((u3.setCell ⟨(w.heap.size + 2), 5, none⟩ (.slice (some ⟨j, 0, none⟩) ns ns)).setCell ⟨(w.heap.size + 2), 6, none⟩ (.int .i64 X)).setCell ⟨(w.heap.size + 2), 7, none⟩ (.int .i64 C)).cell? ⟨w.heap.size, 0, none⟩ = some (.slice ap np cp) := cell_set1 (cell_set1 (cell_set1 (la0_u3) (by omega)) (by omega)) (by omega)
  have la1_W6 : (((u3.setCell ⟨(w.heap.size + 2), 5, none⟩ (.slice (some ⟨j, 0, none⟩) ns ns)).setCell ⟨(w.heap.size + 2), 6, none⟩ (.int .i64 X)).setCell ⟨(w.heap.size + 2), 7, none⟩ (.int .i64 C)).cell? ⟨w.heap.size, 1, none⟩ = some (.slice ab nb cb) := cell_set1 (cell_set1 (cell_set1 (la1_u3) (by omega)) (by omega)) (by omega)
  have la2_W6 : (((u3.setCell ⟨(w.heap.size + 2), 5, none⟩ (.slice (some ⟨j, 0, none⟩) ns ns)).setCell ⟨(w.heap.size + 2), 6, none⟩ (.int .i64 X)).setCell ⟨(w.heap.size + 2), 7, none⟩ (.int .i64 C)).cell? ⟨w.heap.size, 2, none⟩ = some (.slice al nl cl) := cell_set1 (cell_set1 (cell_set1 (la2_u3) (by omega)) (by omega)) (by omega)
  have la3_W6 : (((u3.setCell ⟨(w.heap.size + 2), 5, none⟩ (.slice (some ⟨j, 0, none⟩) ns ns)).setCell ⟨(w.heap.size + 2), 6, none⟩ (.int .i64 X)).setCell ⟨(w.heap.size + 2), 7, none⟩ (.int .i64 C)).cell? ⟨w.heap.size, 3, none⟩ = some (.int .i64 T) := cell_set1 (cell_set1 (cell_set1 (la3_u3) (by omega)) (by omega)) (by omega)
  have la4_W6 : (((u3.setCell ⟨(w.heap.size + 2), 5, none⟩ (.slice (some ⟨j, 0, none⟩) ns ns)).setCell ⟨(w.heap.size + 2), 6, none⟩ (.int .i64 X)).setCell ⟨(w.heap.size + 2), 7, none⟩ (.int .i64 C)).cell? ⟨w.heap.size, 4, none⟩ = some (.int .i64 N) := cell_set1 (cell_set1 (cell_set1 (la4_u3) (by omega)) (by omega)) (by omega)
  have la5_W6 : (((u3.setCell ⟨(w.heap.size + 2), 5, none⟩ (.slice (some ⟨j, 0, none⟩) ns ns)).setCell ⟨(w.heap.size + 2), 6, none⟩ (.int .i64 X)).setCell ⟨(w.heap.size + 2), 7, none⟩ (.int .i64 C)).cell? ⟨w.heap.size, 5, none⟩ = some (.slice aS ns cs) := cell_set1 (cell_set1 (cell_set1 (la5_u3) (by omega)) (by omega)) (by omega)
  have la6_W6 : (((u3.setCell ⟨(w.heap.size + 2), 5, none⟩ (.slice (some ⟨j, 0, none⟩) ns ns)).setCell ⟨(w.heap.size + 2), 6, none⟩ (.int .i64 X)).setCell ⟨(w.heap.size + 2), 7, none⟩ (.int .i64 C)).cell? ⟨w.heap.size, 6, none⟩ = some (.int .i64 X) := cell_set1 (cell_set1 (cell_set1 (la6_u3) (by omega)) (by omega)) (by omega)
  have la7_W6 : (((u3.setCell ⟨(w.heap.size + 2), 5, none⟩ (.slice (some ⟨j, 0, none⟩) ns ns)).setCell ⟨(w.heap.size + 2), 6, none⟩ (.int .i64 X)).setCell ⟨(w.heap.size + 2), 7, none⟩ (.int .i64 C)).cell? ⟨w.heap.size, 7, none⟩ = some (.int .i64 C) := cell_set1 (cell_set1 (cell_set1 (la7_u3) (by omega)) (by omega)) (by omega)
  have laF_W6 : ∀ o, (((u3.setCell ⟨(w.heap.size + 2), 5, none⟩ (.slice (some ⟨j, 0, none⟩) ns ns)).setCell ⟨(w.heap.size + 2), 6, none⟩ (.int .i64 X)).setCell ⟨(w.heap.size + 2), 7, none⟩ (.int .i64 C)).frozen? ⟨w.heap.size, o, none⟩ = false := fun o => frz_set1 (frz_set1 (frz_set1 ((laF_u3 o))))
  have laL_W6 : w.heap.size < (((u3.setCell ⟨(w.heap.size + 2), 5, none⟩ (.slice (some ⟨j, 0, none⟩) ns ns)).setCell ⟨(w.heap.size + 2), 6, none⟩ (.int .i64 X)).setCell ⟨(w.heap.size + 2), 7, none⟩ (.int .i64 C)).heap.size := by simpa using laL_u3
  have re0_W6 : (((u3.setCell ⟨(w.heap.size + 2), 5, none⟩ (.slice (some ⟨j, 0, none⟩) ns ns)).setCell ⟨(w.heap.size + 2), 6, none⟩ (.int .i64 X)).setCell ⟨(w.heap.size + 2), 7, none⟩ (.int .i64 C)).cell? ⟨(w.heap.size + 1), 0, none⟩ = some (.slice none 0 0) := cell_set1 (cell_set1 (cell_set1 (re0_u3) (by omega)) (by omega)) (by omega)
  have re1_W6 : (((u3.setCell ⟨(w.heap.size + 2), 5, none⟩ (.slice (some ⟨j, 0, none⟩) ns ns)).setCell ⟨(w.heap.size + 2), 6, none⟩ (.int .i64 X)).setCell ⟨(w.heap.size + 2), 7, none⟩ (.int .i64 C)).cell? ⟨(w.heap.size + 1), 1, none⟩ = some (.slice none 0 0) := cell_set1 (cell_set1 (cell_set1 (re1_u3) (by omega)) (by omega)) (by omega)
  have re2_W6 : (((u3.setCell ⟨(w.heap.size + 2), 5, none⟩ (.slice (some ⟨j, 0, none⟩) ns ns)).setCell ⟨(w.heap.size + 2), 6, none⟩ (.int .i64 X)).setCell ⟨(w.heap.size + 2), 7, none⟩ (.int .i64 C)).cell? ⟨(w.heap.size + 1), 2, none⟩ = some (.slice none 0 0) := cell_set1 (cell_set1 (cell_set1 (re2_u3) (by omega)) (by omega)) (by omega)
  have re3_W6 : (((u3.setCell ⟨(w.heap.size + 2), 5, none⟩ (.slice (some ⟨j, 0, none⟩) ns ns)).setCell ⟨(w.heap.size + 2), 6, none⟩ (.int .i64 X)).setCell ⟨(w.heap.size + 2), 7, none⟩ (.int .i64 C)).cell? ⟨(w.heap.size + 1), 3, none⟩ = some (.int .i64 0) := cell_set1 (cell_set1 (cell_set1 (re3_u3) (by omega)) (by omega)) (by omega)
  have re4_W6 : (((u3.setCell ⟨(w.heap.size + 2), 5, none⟩ (.slice (some ⟨j, 0, none⟩) ns ns)).setCell ⟨(w.heap.size + 2), 6, none⟩ (.int .i64 X)).setCell ⟨(w.heap.size + 2), 7, none⟩ (.int .i64 C)).cell? ⟨(w.heap.size + 1), 4, none⟩ = some (.int .i64 0) := cell_set1 (cell_set1 (cell_set1 (re4_u3) (by omega)) (by omega)) (by omega)
  have re5_W6 : (((u3.setCell ⟨(w.heap.size + 2), 5, none⟩ (.slice (some ⟨j, 0, none⟩) ns ns)).setCell ⟨(w.heap.size + 2), 6, none⟩ (.int .i64 X)).setCell ⟨(w.heap.size + 2), 7, none⟩ (.int .i64 C)).cell? ⟨(w.heap.size + 1), 5, none⟩ = some (.slice none 0 0) := cell_set1 (cell_set1 (cell_set1 (re5_u3) (by omega)) (by omega)) (by omega)
  have re6_W6 : (((u3.setCell ⟨(w.heap.size + 2), 5, none⟩ (.slice (some ⟨j, 0, none⟩) ns ns)).setCell ⟨(w.heap.size + 2), 6, none⟩ (.int .i64 X)).setCell ⟨(w.heap.size + 2), 7, none⟩ (.int .i64 C)).cell? ⟨(w.heap.size + 1), 6, none⟩ = some (.int .i64 0) := cell_set1 (cell_set1 (cell_set1 (re6_u3) (by omega)) (by omega)) (by omega)
  have re7_W6 : (((u3.setCell ⟨(w.heap.size + 2), 5, none⟩ (.slice (some ⟨j, 0, none⟩) ns ns)).setCell ⟨(w.heap.size + 2), 6, none⟩ (.int .i64 X)).setCell ⟨(w.heap.size + 2), 7, none⟩ (.int .i64 C)).cell? ⟨(w.heap.size + 1), 7, none⟩ = some (.int .i64 0) := cell_set1 (cell_set1 (cell_set1 (re7_u3) (by omega)) (by omega)) (by omega)
  have reF_W6 : ∀ o, (((u3.setCell ⟨(w.heap.size + 2), 5, none⟩ (.slice (some ⟨j, 0, none⟩) ns ns)).setCell ⟨(w.heap.size + 2), 6, none⟩ (.int .i64 X)).setCell ⟨(w.heap.size + 2), 7, none⟩ (.int .i64 C)).frozen? ⟨(w.heap.size + 1), o, none⟩ = false := fun o => frz_set1 (frz_set1 (frz_set1 ((reF_u3 o))))
  have reL_W6 : (w.heap.size + 1) < (((u3.setCell ⟨(w.heap.size + 2), 5, none⟩ (.slice (some ⟨j, 0, none⟩) ns ns)).setCell ⟨(w.heap.size + 2), 6, none⟩ (.int .i64 X)).setCell ⟨(w.heap.size + 2), 7, none⟩ (.int .i64 C)).heap.size := by simpa using reL_u3
  have ouF_W6 : ∀ o, (((u3.setCell ⟨(w.heap.size + 2), 5, none⟩ (.slice (some ⟨j, 0, none⟩) ns ns)).setCell ⟨(w.heap.size + 2), 6, none⟩ (.int .i64 X)).setCell ⟨(w.heap.size + 2), 7, none⟩ (.int .i64 C)).frozen? ⟨(w.heap.size + 2), o, none⟩ = false := fun o => frz_set1 (frz_set1 (frz_set1 ((ouF_u3 o))))
  have ouL_W6 : (w.heap.size + 2) < (((u3.setCell ⟨(w.heap.size + 2), 5, none⟩ (.slice (some ⟨j, 0, none⟩) ns ns)).setCell ⟨(w.heap.size + 2), 6, none⟩ (.int .i64 X)).setCell ⟨(w.heap.size + 2), 7, none⟩ (.int .i64 C)).heap.size := by simpa using ouL_u3
  have oG_W6 : Hid (OwnG KPl 58 (((u3.setCell ⟨(w.heap.size + 2), 5, none⟩ (.slice (some ⟨j, 0, none⟩) ns ns)).setCell ⟨(w.heap.size + 2), 6, none⟩ (.int .i64 X)).setCell ⟨(w.heap.size + 2), 7, none⟩ (.int .i64 C)) (w.heap.size + 3) (.slice (some ⟨g, 0, none⟩) np np) (ps)) := hidP (OwnG.grown (OwnG.grown (OwnG.grown (oG_u3.out) (grown_cellG _ _ _ _) (OwnG.ne_of oG_u3.out (by omega))) (grown_cellG _ _ _ _) (OwnG.ne_of oG_u3.out (by omega))) (grown_cellG _ _ _ _) (OwnG.ne_of oG_u3.out (by omega)))
  have oH_W6 : Hid (OwnG KBk 60 (((u3.setCell ⟨(w.heap.size + 2), 5, none⟩ (.slice (some ⟨j, 0, none⟩) ns ns)).setCell ⟨(w.heap.size + 2), 6, none⟩ (.int .i64 X)).setCell ⟨(w.heap.size + 2), 7, none⟩ (.int .i64 C)) (w.heap.size + 3) (.slice (some ⟨h, 0, none⟩) nb nb) (bs)) := hidP (OwnG.grown (OwnG.grown (OwnG.grown (oH_u3.out) (grown_cellG _ _ _ _) (OwnG.ne_of oH_u3.out (by omega))) (grown_cellG _ _ _ _) (OwnG.ne_of oH_u3.out (by omega))) (grown_cellG _ _ _ _) (OwnG.ne_of oH_u3.out (by omega)))
  have oI_W6 : Hid (OwnG KLs 62 (((u3.setCell ⟨(w.heap.size + 2), 5, none⟩ (.slice (some ⟨j, 0, none⟩) ns ns)).setCell ⟨(w.heap.size + 2), 6, none⟩ (.int .i64 X)).setCell ⟨(w.heap.size + 2), 7, none⟩ (.int .i64 C)) (w.heap.size + 3) (.slice (some ⟨i, 0, none⟩) nl nl) (ls)) := hidP (OwnG.grown (OwnG.grown (OwnG.grown (oI_u3.out) (grown_cellG _ _ _ _) (OwnG.ne_of oI_u3.out (by omega))) (grown_cellG _ _ _ _) (OwnG.ne_of oI_u3.out (by omega))) (grown_cellG _ _ _ _) (OwnG.ne_of oI_u3.out (by omega)))
  have oJ_W6 : Hid (OwnG KSs 64 (((u3.setCell ⟨(w.heap.size + 2), 5, none⟩ (.slice (some ⟨j, 0, none⟩) ns ns)).setCell ⟨(w.heap.size + 2), 6, none⟩ (.int .i64 X)).setCell ⟨(w.heap.size + 2), 7, none⟩ (.int .i64 C)) (w.heap.size + 3) (.slice (some ⟨j, 0, none⟩) ns ns) (ss)) := hidP (OwnG.grown (OwnG.grown (OwnG.grown (oJ_u3.out) (grown_cellG _ _ _ _) (OwnG.ne_of oJ_u3.out (by omega))) (grown_cellG _ _ _ _) (OwnG.ne_of oJ_u3.out (by omega))) (grown_cellG _ _ _ _) (OwnG.ne_of oJ_u3.out (by omega)))
  have acc_W6 : Hid (Below w.heap.size w (((u3.setCell ⟨(w.heap.size + 2), 5, none⟩ (.slice (some ⟨j, 0, none⟩) ns ns)).setCell ⟨(w.heap.size + 2), 6, none⟩ (.int .i64 X)).setCell ⟨(w.heap.size + 2), 7, none⟩ (.int .i64 C))) := hidP (Below.setCell (Below.setCell (Below.setCell (acc_u3.out) (by try dsimp only; omega) _) (by try dsimp only; omega) _) (by try dsimp only; omega) _)
  have sz_W6 : Hid ((((u3.setCell ⟨(w.heap.size + 2), 5, none⟩ (.slice (some ⟨j, 0, none⟩) ns ns)).setCell ⟨(w.heap.size + 2), 6, none⟩ (.int .i64 X)).setCell ⟨(w.heap.size + 2), 7, none⟩ (.int .i64 C)).heap.size = u3.heap.size) := hidP (by simp)
  generalize ((u3.setCell ⟨(w.heap.size + 2), 5, none⟩ (.slice (some ⟨j, 0, none⟩) ns ns)).setCell ⟨(w.heap.size + 2), 6, none⟩ (.int .i64 X)).setCell ⟨(w.heap.size + 2), 7, none⟩ (.int .i64 C) = W6 at *
  clear ou0_u3 ou1_u3 ou2_u3 ou3_u3 ou4_u3 ou5_u3 ou6_u3 ou7_u3 la0_u3 la1_u3 la2_u3 la3_u3 la4_u3 la5_u3 la6_u3 la7_u3 laF_u3 laL_u3 re0_u3 re1_u3 re2_u3 re3_u3 re4_u3 re5_u3 re6_u3 re7_u3 reF_u3 reL_u3 ouF_u3 ouL_u3 oG_u3 oH_u3 oI_u3 oJ_u3 acc_u3
  clear la0_W6 la1_W6 la2_W6 la3_W6 la4_W6 la5_W6 la6_W6 la7_W6 laF_W6 laL_W6
  clear ou0_W6 ou1_W6 ou2_W6 ou3_W6 ou4_W6 ou5_W6 ou6_W6 ou7_W6 ouF_W6 ouL_W6
  have re0_W7 : ((((((((W6.setCell ⟨(w.heap.size + 1), 0, none⟩ (.slice (some ⟨g, 0, none⟩) np np)).setCell ⟨(w.heap.size + 1), 1, none⟩ (.slice (some ⟨h, 0, none⟩) nb nb)).setCell ⟨(w.heap.size + 1), 2, none⟩ (.slice (some ⟨i, 0, none⟩) nl nl)).setCell ⟨(w.heap.size + 1), 3, none⟩ (.int .i64 T)).setCell ⟨(w.heap.size + 1), 4, none⟩ (.int .i64 N)).setCell ⟨(w.heap.size + 1), 5, none⟩ (.slice (some ⟨j, 0, none⟩) ns ns)).setCell ⟨(w.heap.size + 1), 6, none⟩ (.int .i64 X)).setCell ⟨(w.heap.size + 1), 7, none⟩ (.int .i64 C)).cell? ⟨(w.heap.size + 1), 0, none⟩ = some (.slice (some ⟨g, 0, none⟩) np np) := by simp [go_sem, re0_W6]
  have re1_W7 : ((((((((W6.setCell ⟨(w.heap.size + 1), 0, none⟩ (.slice (some ⟨g, 0, none⟩) np np)).setCell ⟨(w.heap.size + 1), 1, none⟩ (.slice (some ⟨h, 0, none⟩) nb nb)).setCell ⟨(w.heap.size + 1), 2, none⟩ (.slice (some ⟨i, 0, none⟩) nl nl)).setCell ⟨(w.heap.size + 1), 3, none⟩ (.int .i64 T)).setCell ⟨(w.heap.size + 1), 4, none⟩ (.int .i64 N)).setCell ⟨(w.heap.size + 1), 5, none⟩ (.slice (some ⟨j, 0, none⟩) ns ns)).setCell ⟨(w.heap.size + 1), 6, none⟩ (.int .i64 X)).setCell ⟨(w.heap.size + 1), 7, none⟩ (.int .i64 C)).cell? ⟨(w.heap.size + 1), 1, none⟩ = some (.slice (some ⟨h, 0, none⟩) nb nb) := by simp [go_sem, re1_W6]
  have re2_W7 : ((((((((W6.setCell ⟨(w.heap.size + 1), 0, none⟩ (.slice (some ⟨g, 0, none⟩) np np)).setCell ⟨(w.heap.size + 1), 1, none⟩ (.slice (some ⟨h, 0, none⟩) nb nb)).setCell ⟨(w.heap.size + 1), 2, none⟩ (.slice (some ⟨i, 0, none⟩) nl nl)).setCell ⟨(w.heap.size + 1), 3, none⟩ (.int .i64 T)).setCell ⟨(w.heap.size + 1), 4, none⟩ (.int .i64 N)).setCell ⟨(w.heap.size + 1), 5, none⟩ (.slice (some ⟨j, 0, none⟩) ns ns)).setCell ⟨(w.heap.size + 1), 6, none⟩ (.int .i64 X)).setCell ⟨(w.heap.size + 1), 7, none⟩ (.int .i64 C)).cell? ⟨(w.heap.size + 1), 2, none⟩ = some (.slice (some ⟨i, 0, none⟩) nl nl) := by simp [go_sem, re2_W6]
  have re3_W7 : ((((((((W6.setCell ⟨(w.heap.size + 1), 0, none⟩ (.slice (some ⟨g, 0, none⟩) np np)).setCell ⟨(w.heap.size + 1), 1, none⟩ (.slice (some ⟨h, 0, none⟩) nb nb)).setCell ⟨(w.heap.size + 1), 2, none⟩ (.slice (some ⟨i, 0, none⟩) nl nl)).setCell ⟨(w.heap.size + 1), 3, none⟩ (.int .i64 T)).setCell ⟨(w.heap.size + 1), 4, none⟩ (.int .i64 N)).setCell ⟨(w.heap.size + 1), 5, none⟩ (.slice (some ⟨j, 0, none⟩) ns ns)).setCell ⟨(w.heap.size + 1), 6, none⟩ (.int .i64 X)).setCell ⟨(w.heap.size + 1), 7, none⟩ (.int .i64 C)).cell? ⟨(w.heap.size + 1), 3, none⟩ = some (.int .i64 T) := by simp [go_sem, re3_W6]
  have re4_W7 : ((((((((W6.setCell ⟨(w.heap.size + 1), 0, none⟩ (.slice (some ⟨g, 0, none⟩) np np)).setCell ⟨(w.heap.size + 1), 1, none⟩ (.slice (some ⟨h, 0, none⟩) nb nb)).setCell ⟨(w.heap.size + 1), 2, none⟩ (.slice (some ⟨i, 0, none⟩) nl nl)).setCell ⟨(w.heap.size + 1), 3, none⟩ (.int .i64 T)).setCell ⟨(w.heap.size + 1), 4, none⟩ (.int .i64 N)).setCell ⟨(w.heap.size + 1), 5, none⟩ (.slice (some ⟨j, 0, none⟩) ns ns)).setCell ⟨(w.heap.size + 1), 6, none⟩ (.int .i64 X)).setCell ⟨(w.heap.size + 1), 7, none⟩ (.int .i64 C)).cell? ⟨(w.heap.size + 1), 4, none⟩ = some (.int .i64 N) := by simp [go_sem, re4_W6]
  have re5_W7 : ((((((((W6.setCell ⟨(w.heap.size + 1), 0, none⟩ (.slice (some ⟨g, 0, none⟩) np np)).setCell ⟨(w.heap.size + 1), 1, none⟩ (.slice (some ⟨h, 0, none⟩) nb nb)).setCell ⟨(w.heap.size + 1), 2, none⟩ (.slice (some ⟨i, 0, none⟩) nl nl)).setCell ⟨(w.heap.size + 1), 3, none⟩ (.int .i64 T)).setCell ⟨(w.heap.size + 1), 4, none⟩ (.int .i64 N)).setCell ⟨(w.heap.size + 1), 5, none⟩ (.slice (some ⟨j, 0, none⟩) ns ns)).setCell ⟨(w.heap.size + 1), 6, none⟩ (.int .i64 X)).setCell ⟨(w.heap.size + 1), 7, none⟩ (.int .i64 C)).cell? ⟨(w.heap.size + 1), 5, none⟩ = some (.slice (some ⟨j, 0, none⟩) ns ns) := by simp [go_sem, re5_W6]
  have re6_W7 : ((((((((W6.setCell ⟨(w.heap.size + 1), 0, none⟩ (.slice (some ⟨g, 0, none⟩) np np)).setCell ⟨(w.heap.size + 1), 1, none⟩ (.slice (some ⟨h, 0, none⟩) nb nb)).setCell ⟨(w.heap.size + 1), 2, none⟩ (.slice (some ⟨i, 0, none⟩) nl nl)).setCell ⟨(w.heap.size + 1), 3, none⟩ (.int .i64 T)).setCell ⟨(w.heap.size + 1), 4, none⟩ (.int .i64 N)).setCell ⟨(w.heap.size + 1), 5, none⟩ (.slice (some ⟨j, 0, none⟩) ns ns)).setCell ⟨(w.heap.size + 1), 6, none⟩ (.int .i64 X)).setCell ⟨(w.heap.size + 1), 7, none⟩ (.int .i64 C)).cell? ⟨(w.heap.size + 1), 6, none⟩ = some (.int .i64 X) := by simp [go_sem, re6_W6]
  have re7_W7 : ((((((((W6.setCell ⟨(w.heap.size + 1), 0, none⟩ (.slice (some ⟨g, 0, none⟩) np np)).setCell ⟨(w.heap.size + 1), 1, none⟩ (.slice (some ⟨h, 0, none⟩) nb nb)).setCell ⟨(w.heap.size + 1), 2, none⟩ (.slice (some ⟨i, 0, none⟩) nl nl)).setCell ⟨(w.heap.size + 1), 3, none⟩ (.int .i64 T)).setCell ⟨(w.heap.size + 1), 4, none⟩ (.int .i64 N)).setCell ⟨(w.heap.size + 1), 5, none⟩ (.slice (some ⟨j, 0, none⟩) ns ns)).setCell ⟨(w.heap.size + 1), 6, none⟩ (.int .i64 X)).setCell ⟨(w.heap.size + 1), 7, none⟩ (.int .i64 C)).cell? ⟨(w.heap.size + 1), 7, none⟩ = some (.int .i64 C) := by simp [go_sem, re7_W6]
  have reF_W7 : ∀ o, ((((((((W6.setCell ⟨(w.heap.size + 1), 0, none⟩ (.slice (some ⟨g, 0, none⟩) np np)).setCell ⟨(w.heap.size + 1), 1, none⟩ (.slice (some ⟨h, 0, none⟩) nb nb)).setCell ⟨(w.heap.size + 1), 2, none⟩ (.slice (some ⟨i, 0, none⟩) nl nl)).setCell ⟨(w.heap.size + 1), 3, none⟩ (.int .i64 T)).setCell ⟨(w.heap.size + 1), 4, none⟩ (.int .i64 N)).setCell ⟨(w.heap.size + 1), 5, none⟩ (.slice (some ⟨j, 0, none⟩) ns ns)).setCell ⟨(w.heap.size + 1), 6, none⟩ (.int .i64 X)).setCell ⟨(w.heap.size + 1), 7, none⟩ (.int .i64 C)).frozen? ⟨(w.heap.size + 1), o, none⟩ = false := fun o => frz_set1 (frz_set1 (frz_set1 (frz_set1 (frz_set1 (frz_set1 (frz_set1 (frz_set1 ((reF_W6 o)))))))))
  have reL_W7 : (w.heap.size + 1) < ((((((((W6.setCell ⟨(w.heap.size + 1), 0, none⟩ (.slice (some ⟨g, 0, none⟩) np np)).setCell ⟨(w.heap.size + 1), 1, none⟩ (.slice (some ⟨h, 0, none⟩) nb nb)).setCell ⟨(w.heap.size + 1), 2, none⟩ (.slice (some ⟨i, 0, none⟩) nl nl)).setCell ⟨(w.heap.size + 1), 3, none⟩ (.int .i64 T)).setCell ⟨(w.heap.size + 1), 4, none⟩ (.int .i64 N)).setCell ⟨(w.heap.size + 1), 5, none⟩ (.slice (some ⟨j, 0, none⟩) ns ns)).setCell ⟨(w.heap.size + 1), 6, none⟩ (.int .i64 X)).setCell ⟨(w.heap.size + 1), 7, none⟩ (.int .i64 C)).heap.size := by simpa using reL_W6
  have oG_W7 : Hid (OwnG KPl 58 ((((((((W6.setCell ⟨(w.heap.size + 1), 0, none⟩ (.slice (some ⟨g, 0, none⟩) np np)).setCell ⟨(w.heap.size + 1), 1, none⟩ (.slice (some ⟨h, 0, none⟩) nb nb)).setCell ⟨(w.heap.size + 1), 2, none⟩ (.slice (some ⟨i, 0, none⟩) nl nl)).setCell ⟨(w.heap.size + 1), 3, none⟩ (.int .i64 T)).setCell ⟨(w.heap.size + 1), 4, none⟩ (.int .i64 N)).setCell ⟨(w.heap.size + 1), 5, none⟩ (.slice (some ⟨j, 0, none⟩) ns ns)).setCell ⟨(w.heap.size + 1), 6, none⟩ (.int .i64 X)).setCell ⟨(w.heap.size + 1), 7, none⟩ (.int .i64 C)) (w.heap.size + 3) (.slice (some ⟨g, 0, none⟩) np np) (ps)) := hidP (OwnG.grown (OwnG.grown (OwnG.grown (OwnG.grown (OwnG.grown (OwnG.grown (OwnG.grown (OwnG.grown (oG_W6.out) (grown_cellG _ _ _ _) (OwnG.ne_of oG_W6.out (by omega))) (grown_cellG _ _ _ _) (OwnG.ne_of oG_W6.out (by omega))) (grown_cellG _ _ _ _) (OwnG.ne_of oG_W6.out (by omega))) (grown_cellG _ _ _ _) (OwnG.ne_of oG_W6.out (by omega))) (grown_cellG _ _ _ _) (OwnG.ne_of oG_W6.out (by omega))) (grown_cellG _ _ _ _) (OwnG.ne_of oG_W6.out (by omega))) (grown_cellG _ _ _ _) (OwnG.ne_of oG_W6.out (by omega))) (grown_cellG _ _ _ _) (OwnG.ne_of oG_W6.out (by omega)))
  have oH_W7 : Hid (OwnG KBk 60 ((((((((W6.setCell ⟨(w.heap.size + 1), 0, none⟩ (.slice (some ⟨g, 0, none⟩) np np)).setCell ⟨(w.heap.size + 1), 1, none⟩ (.slice (some ⟨h, 0, none⟩) nb nb)).setCell ⟨(w.heap.size + 1), 2, none⟩ (.slice (some ⟨i, 0, none⟩) nl nl)).setCell ⟨(w.heap.size + 1), 3, none⟩ (.int .i64 T)).setCell ⟨(w.heap.size + 1), 4, none⟩ (.int .i64 N)).setCell ⟨(w.heap.size + 1), 5, none⟩ (.slice (some ⟨j, 0, none⟩) ns ns)).setCell ⟨(w.heap.size + 1), 6, none⟩ (.int .i64 X)).setCell ⟨(w.heap.size + 1), 7, none⟩ (.int .i64 C)) (w.heap.size + 3) (.slice (some ⟨h, 0, none⟩) nb nb) (bs)) := hidP (OwnG.grown (OwnG.grown (OwnG.grown (OwnG.grown (OwnG.grown (OwnG.grown (OwnG.grown (OwnG.grown (oH_W6.out) (grown_cellG _ _ _ _) (OwnG.ne_of oH_W6.out (by omega))) (grown_cellG _ _ _ _) (OwnG.ne_of oH_W6.out (by omega))) (grown_cellG _ _ _ _) (OwnG.ne_of oH_W6.out (by omega))) (grown_cellG _ _ _ _) (OwnG.ne_of oH_W6.out (by omega))) (grown_cellG _ _ _ _) (OwnG.ne_of oH_W6.out (by omega))) (grown_cellG _ _ _ _) (OwnG.ne_of oH_W6.out (by omega))) (grown_cellG _ _ _ _) (OwnG.ne_of oH_W6.out (by omega))) (grown_cellG _ _ _ _) (OwnG.ne_of oH_W6.out (by omega)))
  have oI_W7 : Hid (OwnG KLs 62 ((((((((W6.setCell ⟨(w.heap.size + 1), 0, none⟩ (.slice (some ⟨g, 0, none⟩) np np)).setCell ⟨(w.heap.size + 1), 1, none⟩ (.slice (some ⟨h, 0, none⟩) nb nb)).setCell ⟨(w.heap.size + 1), 2, none⟩ (.slice (some ⟨i, 0, none⟩) nl nl)).setCell ⟨(w.heap.size + 1), 3, none⟩ (.int .i64 T)).setCell ⟨(w.heap.size + 1), 4, none⟩ (.int .i64 N)).setCell ⟨(w.heap.size + 1), 5, none⟩ (.slice (some ⟨j, 0, none⟩) ns ns)).setCell ⟨(w.heap.size + 1), 6, none⟩ (.int .i64 X)).setCell ⟨(w.heap.size + 1), 7, none⟩ (.int .i64 C)) (w.heap.size + 3) (.slice (some ⟨i, 0, none⟩) nl nl) (ls)) := hidP (OwnG.grown (OwnG.grown (OwnG.grown (OwnG.grown (OwnG.grown (OwnG.grown (OwnG.grown (OwnG.grown (oI_W6.out) (grown_cellG _ _ _ _) (OwnG.ne_of oI_W6.out (by omega))) (grown_cellG _ _ _ _) (OwnG.ne_of oI_W6.out (by omega))) (grown_cellG _ _ _ _) (OwnG.ne_of oI_W6.out (by omega))) (grown_cellG _ _ _ _) (OwnG.ne_of oI_W6.out (by omega))) (grown_cellG _ _ _ _) (OwnG.ne_of oI_W6.out (by omega))) (grown_cellG _ _ _ _) (OwnG.ne_of oI_W6.out (by omega))) (grown_cellG _ _ _ _) (OwnG.ne_of oI_W6.out (by omega))) (grown_cellG _ _ _ _) (OwnG.ne_of oI_W6.out (by omega)))
  have oJ_W7 : Hid (OwnG KSs 64 ((((((((W6.setCell ⟨(w.heap.size + 1), 0, none⟩ (.slice (some ⟨g, 0, none⟩) np np)).setCell ⟨(w.heap.size + 1), 1, none⟩ (.slice (some ⟨h, 0, none⟩) nb nb)).setCell ⟨(w.heap.size + 1), 2, none⟩ (.slice (some ⟨i, 0, none⟩) nl nl)).setCell ⟨(w.heap.size + 1), 3, none⟩ (.int .i64 T)).setCell ⟨(w.heap.size + 1), 4, none⟩ (.int .i64 N)).setCell ⟨(w.heap.size + 1), 5, none⟩ (.slice (some ⟨j, 0, none⟩) ns ns)).setCell ⟨(w.heap.size + 1), 6, none⟩ (.int .i64 X)).setCell ⟨(w.heap.size + 1), 7, none⟩ (.int .i64 C)) (w.heap.size + 3) (.slice (some ⟨j, 0, none⟩) ns ns) (ss)) := hidP (OwnG.grown (OwnG.grown (OwnG.grown (OwnG.grown (OwnG.grown (OwnG.grown (OwnG.grown (OwnG.grown (oJ_W6.out) (grown_cellG _ _ _ _) (OwnG.ne_of oJ_W6.out (by omega))) (grown_cellG _ _ _ _) (OwnG.ne_of oJ_W6.out (by omega))) (grown_cellG _ _ _ _) (OwnG.ne_of oJ_W6.out (by omega))) (grown_cellG _ _ _ _) (OwnG.ne_of oJ_W6.out (by omega))) (grown_cellG _ _ _ _) (OwnG.ne_of oJ_W6.out (by omega))) (grown_cellG _ _ _ _) (OwnG.ne_of oJ_W6.out (by omega))) (grown_cellG _ _ _ _) (OwnG.ne_of oJ_W6.out (by omega))) (grown_cellG _ _ _ _) (OwnG.ne_of oJ_W6.out (by omega)))
  have acc_W7 : Hid (Below w.heap.size w ((((((((W6.setCell ⟨(w.heap.size + 1), 0, none⟩ (.slice (some ⟨g, 0, none⟩) np np)).setCell ⟨(w.heap.size + 1), 1, none⟩ (.slice (some ⟨h, 0, none⟩) nb nb)).setCell ⟨(w.heap.size + 1), 2, none⟩ (.slice (some ⟨i, 0, none⟩) nl nl)).setCell ⟨(w.heap.size + 1), 3, none⟩ (.int .i64 T)).setCell ⟨(w.heap.size + 1), 4, none⟩ (.int .i64 N)).setCell ⟨(w.heap.size + 1), 5, none⟩ (.slice (some ⟨j, 0, none⟩) ns ns)).setCell ⟨(w.heap.size + 1), 6, none⟩ (.int .i64 X)).setCell ⟨(w.heap.size + 1), 7, none⟩ (.int .i64 C))) := hidP (Below.setCell (Below.setCell (Below.setCell (Below.setCell (Below.setCell (Below.setCell (Below.setCell (Below.setCell (acc_W6.out) (by try dsimp only; omega) _) (by try dsimp only; omega) _) (by try dsimp only; omega) _) (by try dsimp only; omega) _) (by try dsimp only; omega) _) (by try dsimp only; omega) _) (by try dsimp only; omega) _) (by try dsimp only; omega) _)
  have sz_W7 : Hid (((((((((W6.setCell ⟨(w.heap.size + 1), 0, none⟩ (.slice (some ⟨g, 0, none⟩) np np)).setCell ⟨(w.heap.size + 1), 1, none⟩ (.slice (some ⟨h, 0, none⟩) nb nb)).setCell ⟨(w.heap.size + 1), 2, none⟩ (.slice (some ⟨i, 0, none⟩) nl nl)).setCell ⟨(w.heap.size + 1), 3, none⟩ (.int .i64 T)).setCell ⟨(w.heap.size + 1), 4, none⟩ (.int .i64 N)).setCell ⟨(w.heap.size + 1), 5, none⟩ (.slice (some ⟨j, 0, none⟩) ns ns)).setCell ⟨(w.heap.size + 1), 6, none⟩ (.int .i64 X)).setCell ⟨(w.heap.size + 1), 7, none⟩ (.int .i64 C)).heap.size = W6.heap.size) := hidP (by simp)
  generalize (((((((W6.setCell ⟨(w.heap.size + 1), 0, none⟩ (.slice (some ⟨g, 0, none⟩) np np)).setCell ⟨(w.heap.size + 1), 1, none⟩ (.slice (some ⟨h, 0, none⟩) nb nb)).setCell ⟨(w.heap.size + 1), 2, none⟩ (.slice (some ⟨i, 0, none⟩) nl nl)).setCell ⟨(w.heap.size + 1), 3, none⟩ (.int .i64 T)).setCell ⟨(w.heap.size + 1), 4, none⟩ (.int .i64 N)).setCell ⟨(w.heap.size + 1), 5, none⟩ (.slice (some ⟨j, 0, none⟩) ns ns)).setCell ⟨(w.heap.size + 1), 6, none⟩ (.int .i64 X)).setCell ⟨(w.heap.size + 1), 7, none⟩ (.int .i64 C) = W7 at *
  clear re0_W6 re1_W6 re2_W6 re3_W6 re4_W6 re5_W6 re6_W6 re7_W6 reF_W6 reL_W6 oG_W6 oH_W6 oI_W6 oJ_W6 acc_W6
  refine bodyPost_ret (v := .agg #[.slice (some ⟨g, 0, none⟩) np np, .slice (some ⟨h, 0, none⟩) nb nb, .slice (some ⟨i, 0, none⟩) nl nl, .int .i64 T, .int .i64 N, .slice (some ⟨j, 0, none⟩) ns ns, .int .i64 X, .int .i64 C]) (by simp [results, Try.results6, go_sem, re0_W7, re1_W7, re2_W7, re3_W7, re4_W7, re5_W7, re6_W7, re7_W7]) rfl ⟨g, h, i, j, rfl, oG_W7.out.mono (by omega), oH_W7.out.mono (by omega), oI_W7.out.mono (by omega), oJ_W7.out.mono (by omega), acc_W7.out⟩

set_option maxRecDepth 10000 in
set_option maxHeartbeats 4000000 in
theorem eqState_same (ap : Option Addr) (np cp : Nat) (ab : Option Addr) (nb cb : Nat) (al : Option Addr) (nl cl : Nat) (T N : Int) (aS : Option Addr) (ns cs : Nat) (X C : Int) (ps : List Pl) (bs : List Bk) (ls : List Ls) (ss : List Ss) (ap' : Option Addr) (cp' : Nat) (ab' : Option Addr) (cb' : Nat) (al' : Option Addr) (cl' : Nat) (aS' : Option Addr) (cs' : Nat) (w : World) (hnp : np = ps.length) (hnb : nb = bs.length) (hnl : nl = ls.length) (hns : ns = ss.length) (hP : RowG KPl w ap ps) (hK : RowG KBk w ab bs) (hL : RowG KLs w al ls) (hS : RowG KSs w aS ss) (hP' : RowG KPl w ap' ps) (hK' : RowG KBk w ab' bs) (hL' : RowG KLs w al' ls) (hS' : RowG KSs w aS' ss) (hlp : np ≤ 9000000000) (hlb : nb ≤ 9000000000) (hll : nl ≤ 9000000000) (hls : ns ≤ 9000000000) :
    Calls Try.prog 8 #[.agg #[.slice ap np cp, .slice ab nb cb, .slice al nl cl, .int .i64 T, .int .i64 N, .slice aS ns cs, .int .i64 X, .int .i64 C], .agg #[.slice ap' np cp', .slice ab' nb cb', .slice al' nl cl', .int .i64 T, .int .i64 N, .slice aS' ns cs', .int .i64 X, .int .i64 C]] w fun e w' => e = .returned (.bool true) ∧ Below w.heap.size w w' := by
  have HP := hidP (fun W h => eqPlan_same ap ap' np cp cp' ab ab' nb cb cb' ps bs W hnp hnb (hP.later h) (hP'.later h) (hK.later h) (hK'.later h) hlp hlb)
  have HB := hidP (fun W h => eqBook_same al al' nl cl cl' T N ls W hnl (hL.later h) (hL'.later h) hll)
  have HD := hidP (fun W h => eqDesk_same aS aS' ns cs cs' X ss W hns (hS.later h) (hS'.later h) hls)
  clear hP hK hL hS hnp hnb hnl hns hP' hK' hL' hS'
  go_enter Try.func8, Try.ntmps8
  go_wp2_with fail
  obtain ⟨ax0_W1, ax1_W1, ax2_W1, ax3_W1, ax4_W1, ax5_W1, ax6_W1, ax7_W1⟩ := bx8 w 47 (.slice ap np cp) (.slice ab nb cb) (.slice al nl cl) (.int .i64 T) (.int .i64 N) (.slice aS ns cs) (.int .i64 X) (.int .i64 C)
  have axF_W1 : ∀ o, (w.alloc (.cells #[.slice ap np cp, .slice ab nb cb, .slice al nl cl, .int .i64 T, .int .i64 N, .slice aS ns cs, .int .i64 X, .int .i64 C] 47)).frozen? ⟨w.heap.size, o, none⟩ = false := fun o => by simp [go_sem]
  have axL_W1 : w.heap.size < (w.alloc (.cells #[.slice ap np cp, .slice ab nb cb, .slice al nl cl, .int .i64 T, .int .i64 N, .slice aS ns cs, .int .i64 X, .int .i64 C] 47)).heap.size := by simp
  have ab_W1 := alloc_below w (.cells #[.slice ap np cp, .slice ab nb cb, .slice al nl cl, .int .i64 T, .int .i64 N, .slice aS ns cs, .int .i64 X, .int .i64 C] 47)
  have as_W1 : Hid ((w.alloc (.cells #[.slice ap np cp, .slice ab nb cb, .slice al nl cl, .int .i64 T, .int .i64 N, .slice aS ns cs, .int .i64 X, .int .i64 C] 47)).heap.size = w.heap.size + 1) := hidP (by simp)
  generalize w.alloc (.cells #[.slice ap np cp, .slice ab nb cb, .slice al nl cl, .int .i64 T, .int .i64 N, .slice aS ns cs, .int .i64 X, .int .i64 C] 47) = W1 at *
  have acc_W1 := hidP (ab_W1)
  have sz_W1 : Hid (w.heap.size ≤ W1.heap.size) := hidP ab_W1.size
  clear ab_W1 
  obtain ⟨bx0_W2, bx1_W2, bx2_W2, bx3_W2, bx4_W2, bx5_W2, bx6_W2, bx7_W2⟩ := bx8 W1 47 (.slice ap' np cp') (.slice ab' nb cb') (.slice al' nl cl') (.int .i64 T) (.int .i64 N) (.slice aS' ns cs') (.int .i64 X) (.int .i64 C)
  have bxF_W2 : ∀ o, (W1.alloc (.cells #[.slice ap' np cp', .slice ab' nb cb', .slice al' nl cl', .int .i64 T, .int .i64 N, .slice aS' ns cs', .int .i64 X, .int .i64 C] 47)).frozen? ⟨W1.heap.size, o, none⟩ = false := fun o => by simp [go_sem]
  have bxL_W2 : W1.heap.size < (W1.alloc (.cells #[.slice ap' np cp', .slice ab' nb cb', .slice al' nl cl', .int .i64 T, .int .i64 N, .slice aS' ns cs', .int .i64 X, .int .i64 C] 47)).heap.size := by simp
  have ab_W2 := alloc_below W1 (.cells #[.slice ap' np cp', .slice ab' nb cb', .slice al' nl cl', .int .i64 T, .int .i64 N, .slice aS' ns cs', .int .i64 X, .int .i64 C] 47)
  have as_W2 : Hid ((W1.alloc (.cells #[.slice ap' np cp', .slice ab' nb cb', .slice al' nl cl', .int .i64 T, .int .i64 N, .slice aS' ns cs', .int .i64 X, .int .i64 C] 47)).heap.size = W1.heap.size + 1) := hidP (by simp)
  generalize W1.alloc (.cells #[.slice ap' np cp', .slice ab' nb cb', .slice al' nl cl', .int .i64 T, .int .i64 N, .slice aS' ns cs', .int .i64 X, .int .i64 C] 47) = W2 at *
  have ax0_W2 := (ab_W2.cell axL_W1).trans ax0_W1
  have ax1_W2 := (ab_W2.cell axL_W1).trans ax1_W1
  have ax2_W2 := (ab_W2.cell axL_W1).trans ax2_W1
  have ax3_W2 := (ab_W2.cell axL_W1).trans ax3_W1
  have ax4_W2 := (ab_W2.cell axL_W1).trans ax4_W1
  have ax5_W2 := (ab_W2.cell axL_W1).trans ax5_W1
  have ax6_W2 := (ab_W2.cell axL_W1).trans ax6_W1
  have ax7_W2 := (ab_W2.cell axL_W1).trans ax7_W1
  have axF_W2 : ∀ o, W2.frozen? ⟨w.heap.size, o, none⟩ = false := fun o => (ab_W2.frozen axL_W1).trans (axF_W1 o)
  have axL_W2 : w.heap.size < W2.heap.size := Nat.lt_of_lt_of_le axL_W1 ab_W2.size
  have acc_W2 := hidP (acc_W1.out.trans (ab_W2.mono acc_W1.out.size))
  have sz_W2 : Hid (W1.heap.size ≤ W2.heap.size) := hidP ab_W2.size
  clear ab_W2 ax0_W1 ax1_W1 ax2_W1 ax3_W1 ax4_W1 ax5_W1 ax6_W1 ax7_W1 axF_W1 axL_W1 acc_W1
  simp only [as_W1.out] at bx0_W2 bx1_W2 bx2_W2 bx3_W2 bx4_W2 bx5_W2 bx6_W2 bx7_W2 bxF_W2 bxL_W2
  refine (HP.out _ acc_W2.out).mono ?_
  rintro e u0 ⟨rfl, hb0⟩
  have ax0_u0 := (hb0.cell axL_W2).trans ax0_W2
  have ax1_u0 := (hb0.cell axL_W2).trans ax1_W2
  have ax2_u0 := (hb0.cell axL_W2).trans ax2_W2
  have ax3_u0 := (hb0.cell axL_W2).trans ax3_W2
  have ax4_u0 := (hb0.cell axL_W2).trans ax4_W2
  have ax5_u0 := (hb0.cell axL_W2).trans ax5_W2
  have ax6_u0 := (hb0.cell axL_W2).trans ax6_W2
  have ax7_u0 := (hb0.cell axL_W2).trans ax7_W2
  have axF_u0 : ∀ o, u0.frozen? ⟨w.heap.size, o, none⟩ = false := fun o => (hb0.frozen axL_W2).trans (axF_W2 o)
  have axL_u0 : w.heap.size < u0.heap.size := Nat.lt_of_lt_of_le axL_W2 hb0.size
  have bx0_u0 := (hb0.cell bxL_W2).trans bx0_W2
  have bx1_u0 := (hb0.cell bxL_W2).trans bx1_W2
  have bx2_u0 := (hb0.cell bxL_W2).trans bx2_W2
  have bx3_u0 := (hb0.cell bxL_W2).trans bx3_W2
  have bx4_u0 := (hb0.cell bxL_W2).trans bx4_W2
  have bx5_u0 := (hb0.cell bxL_W2).trans bx5_W2
  have bx6_u0 := (hb0.cell bxL_W2).trans bx6_W2
  have bx7_u0 := (hb0.cell bxL_W2).trans bx7_W2
  have bxF_u0 : ∀ o, u0.frozen? ⟨(w.heap.size + 1), o, none⟩ = false := fun o => (hb0.frozen bxL_W2).trans (bxF_W2 o)
  have bxL_u0 : (w.heap.size + 1) < u0.heap.size := Nat.lt_of_lt_of_le bxL_W2 hb0.size
  have acc_u0 := hidP (acc_W2.out.trans (hb0.mono acc_W2.out.size))
  have sz_u0 : Hid (W2.heap.size ≤ u0.heap.size) := hidP hb0.size
  clear hb0 ax0_W2 ax1_W2 ax2_W2 ax3_W2 ax4_W2 ax5_W2 ax6_W2 ax7_W2 axF_W2 axL_W2 bx0_W2 bx1_W2 bx2_W2 bx3_W2 bx4_W2 bx5_W2 bx6_W2 bx7_W2 bxF_W2 bxL_W2 acc_W2
  go_wp2_with fail
  refine (HB.out _ acc_u0.out).mono ?_
  rintro e u1 ⟨rfl, hb1⟩
  have ax0_u1 := (hb1.cell axL_u0).trans ax0_u0
  have ax1_u1 := (hb1.cell axL_u0).trans ax1_u0
  have ax2_u1 := (hb1.cell axL_u0).trans ax2_u0
  have ax3_u1 := (hb1.cell axL_u0).trans ax3_u0
  have ax4_u1 := (hb1.cell axL_u0).trans ax4_u0
  have ax5_u1 := (hb1.cell axL_u0).trans ax5_u0
  have ax6_u1 := (hb1.cell axL_u0).trans ax6_u0
  have ax7_u1 := (hb1.cell axL_u0).trans ax7_u0
  have axF_u1 : ∀ o, u1.frozen? ⟨w.heap.size, o, none⟩ = false := fun o => (hb1.frozen axL_u0).trans (axF_u0 o)
  have axL_u1 : w.heap.size < u1.heap.size := Nat.lt_of_lt_of_le axL_u0 hb1.size
  have bx0_u1 := (hb1.cell bxL_u0).trans bx0_u0
  have bx1_u1 := (hb1.cell bxL_u0).trans bx1_u0
  have bx2_u1 := (hb1.cell bxL_u0).trans bx2_u0
  have bx3_u1 := (hb1.cell bxL_u0).trans bx3_u0
  have bx4_u1 := (hb1.cell bxL_u0).trans bx4_u0
  have bx5_u1 := (hb1.cell bxL_u0).trans bx5_u0
  have bx6_u1 := (hb1.cell bxL_u0).trans bx6_u0
  have bx7_u1 := (hb1.cell bxL_u0).trans bx7_u0
  have bxF_u1 : ∀ o, u1.frozen? ⟨(w.heap.size + 1), o, none⟩ = false := fun o => (hb1.frozen bxL_u0).trans (bxF_u0 o)
  have bxL_u1 : (w.heap.size + 1) < u1.heap.size := Nat.lt_of_lt_of_le bxL_u0 hb1.size
  have acc_u1 := hidP (acc_u0.out.trans (hb1.mono acc_u0.out.size))
  have sz_u1 : Hid (u0.heap.size ≤ u1.heap.size) := hidP hb1.size
  clear hb1 ax0_u0 ax1_u0 ax2_u0 ax3_u0 ax4_u0 ax5_u0 ax6_u0 ax7_u0 axF_u0 axL_u0 bx0_u0 bx1_u0 bx2_u0 bx3_u0 bx4_u0 bx5_u0 bx6_u0 bx7_u0 bxF_u0 bxL_u0 acc_u0
  go_wp2_with fail
  refine (HD.out _ acc_u1.out).mono ?_
  rintro e u2 ⟨rfl, hb2⟩
  have ax0_u2 := (hb2.cell axL_u1).trans ax0_u1
  have ax1_u2 := (hb2.cell axL_u1).trans ax1_u1
  have ax2_u2 := (hb2.cell axL_u1).trans ax2_u1
  have ax3_u2 := (hb2.cell axL_u1).trans ax3_u1
  have ax4_u2 := (hb2.cell axL_u1).trans ax4_u1
  have ax5_u2 := (hb2.cell axL_u1).trans ax5_u1
  have ax6_u2 := (hb2.cell axL_u1).trans ax6_u1
  have ax7_u2 := (hb2.cell axL_u1).trans ax7_u1
  have axF_u2 : ∀ o, u2.frozen? ⟨w.heap.size, o, none⟩ = false := fun o => (hb2.frozen axL_u1).trans (axF_u1 o)
  have axL_u2 : w.heap.size < u2.heap.size := Nat.lt_of_lt_of_le axL_u1 hb2.size
  have bx0_u2 := (hb2.cell bxL_u1).trans bx0_u1
  have bx1_u2 := (hb2.cell bxL_u1).trans bx1_u1
  have bx2_u2 := (hb2.cell bxL_u1).trans bx2_u1
  have bx3_u2 := (hb2.cell bxL_u1).trans bx3_u1
  have bx4_u2 := (hb2.cell bxL_u1).trans bx4_u1
  have bx5_u2 := (hb2.cell bxL_u1).trans bx5_u1
  have bx6_u2 := (hb2.cell bxL_u1).trans bx6_u1
  have bx7_u2 := (hb2.cell bxL_u1).trans bx7_u1
  have bxF_u2 : ∀ o, u2.frozen? ⟨(w.heap.size + 1), o, none⟩ = false := fun o => (hb2.frozen bxL_u1).trans (bxF_u1 o)
  have bxL_u2 : (w.heap.size + 1) < u2.heap.size := Nat.lt_of_lt_of_le bxL_u1 hb2.size
  have acc_u2 := hidP (acc_u1.out.trans (hb2.mono acc_u1.out.size))
  have sz_u2 : Hid (u1.heap.size ≤ u2.heap.size) := hidP hb2.size
  clear hb2 ax0_u1 ax1_u1 ax2_u1 ax3_u1 ax4_u1 ax5_u1 ax6_u1 ax7_u1 axF_u1 axL_u1 bx0_u1 bx1_u1 bx2_u1 bx3_u1 bx4_u1 bx5_u1 bx6_u1 bx7_u1 bxF_u1 bxL_u1 acc_u1
  go_wp2_with fail
  go_ret
  exact ⟨rfl, acc_u2.out⟩

end Go.Proofs.Ytngcbhbcocnbeaa
