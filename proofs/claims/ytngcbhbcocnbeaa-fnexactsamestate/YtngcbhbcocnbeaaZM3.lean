/-
  What sameState_holds needs, part 3.
-/
import Derived.Test.YtngcbhbcocnbeaaZM2
import Derived.ProofKit
import Derived.OpenShut
import Derived.Lib.SmallJoins
import Derived.Carry
import Derived.Deep.Slices
import Derived.ChangeMaps5
import Derived.ChangeSame
namespace Go.Proofs.Ytngcbhbcocnbeaa
open Go.RowKit

theorem bxS2 (w : World) (t : TypeId) (v0 v1 : Value) : (w.alloc (.cells #[v0, v1] t)).cell? ⟨w.heap.size, 0, none⟩ = some v0 ∧ (w.alloc (.cells #[v0, v1] t)).cell? ⟨w.heap.size, 1, none⟩ = some v1 := ⟨by simp [go_sem], by simp [go_sem]⟩
theorem bxS3 (w : World) (t : TypeId) (v0 v1 v2 : Value) : (w.alloc (.cells #[v0, v1, v2] t)).cell? ⟨w.heap.size, 0, none⟩ = some v0 ∧ (w.alloc (.cells #[v0, v1, v2] t)).cell? ⟨w.heap.size, 1, none⟩ = some v1 ∧ (w.alloc (.cells #[v0, v1, v2] t)).cell? ⟨w.heap.size, 2, none⟩ = some v2 := ⟨by simp [go_sem], by simp [go_sem], by simp [go_sem]⟩

/-- Two states compared, field by field. -/
def sameB (ps : List Pl) (bs : List Bk) (ls : List Ls) (T N : Int) (ss : List Ss) (X C : Int) (ps' : List Pl) (bs' : List Bk) (ls' : List Ls) (T' N' : Int) (ss' : List Ss) (X' C' : Int) : Bool :=
  (eqlB eqPlB ps ps' && eqlB eqBkB bs bs') && (((eqlB eqLsB ls ls' && (T == T')) && (N == N')) && ((eqlB eqSsB ss ss' && (X == X')) && (C == C')))
set_option maxRecDepth 10000 in
set_option maxHeartbeats 2000000 in
theorem samePlans_any (ap ab ap' ab' : Option Addr) (np cp nb cb np' cp' nb' cb' : Nat) (ps ps' : List Pl) (bs bs' : List Bk) (w : World) (hnp : np = ps.length) (hnb : nb = bs.length) (gnp : np' = ps'.length) (gnb : nb' = bs'.length) (hP : RowG KPl w ap ps) (hK : RowG KBk w ab bs) (gP : RowG KPl w ap' ps') (gK : RowG KBk w ab' bs') (hlp : np ≤ 1048576) (hlb : nb ≤ 1048576) (glp : np' ≤ 1048576) (glb : nb' ≤ 1048576) :
    Calls Try.prog 15 #[.agg #[.slice ap np cp, .slice ab nb cb], .agg #[.slice ap' np' cp', .slice ab' nb' cb']] w fun e w' => e = .returned (.bool (eqlB eqPlB ps ps' && eqlB eqBkB bs bs')) ∧ Below w.heap.size w w' := by
  have H1 := hidP (fun W h => eqSlPl_any ap ap' np cp np' cp' ps ps' W hnp gnp (hP.later h) (gP.later h) hlp glp)
  have H2 := hidP (fun W h => eqSlBk_any ab ab' nb cb nb' cb' bs bs' W hnb gnb (hK.later h) (gK.later h) hlb glb)
  clear hP hK gP gK hnp hnb gnp gnb
  generalize eqlB eqPlB ps ps' = r1 at *
  generalize eqlB eqBkB bs bs' = r2 at *
  cases r1
  · go_enter Try.func15, Try.ntmps15
    go_wp2_with fail
    obtain ⟨ax0_W1, ax1_W1⟩ := bxS2 w 39 (.slice ap np cp) (.slice ab nb cb)
    have axF_W1 : ∀ o, (w.alloc (.cells #[.slice ap np cp, .slice ab nb cb] 39)).frozen? ⟨w.heap.size, o, none⟩ = false := fun o => by simp [go_sem]
    have axL_W1 : w.heap.size < (w.alloc (.cells #[.slice ap np cp, .slice ab nb cb] 39)).heap.size := by simp
    have ab_W1 := alloc_below w (.cells #[.slice ap np cp, .slice ab nb cb] 39)
    have as_W1 : Hid ((w.alloc (.cells #[.slice ap np cp, .slice ab nb cb] 39)).heap.size = w.heap.size + 1) := hidP (by simp)
    generalize w.alloc (.cells #[.slice ap np cp, .slice ab nb cb] 39) = W1 at *
    have acc_W1 := hidP (ab_W1)
    have sz_W1 : Hid (w.heap.size ≤ W1.heap.size) := hidP ab_W1.size
    clear ab_W1 
    obtain ⟨bx0_W2, bx1_W2⟩ := bxS2 W1 39 (.slice ap' np' cp') (.slice ab' nb' cb')
    have bxF_W2 : ∀ o, (W1.alloc (.cells #[.slice ap' np' cp', .slice ab' nb' cb'] 39)).frozen? ⟨W1.heap.size, o, none⟩ = false := fun o => by simp [go_sem]
    have bxL_W2 : W1.heap.size < (W1.alloc (.cells #[.slice ap' np' cp', .slice ab' nb' cb'] 39)).heap.size := by simp
    have ab_W2 := alloc_below W1 (.cells #[.slice ap' np' cp', .slice ab' nb' cb'] 39)
    have as_W2 : Hid ((W1.alloc (.cells #[.slice ap' np' cp', .slice ab' nb' cb'] 39)).heap.size = W1.heap.size + 1) := hidP (by simp)
    generalize W1.alloc (.cells #[.slice ap' np' cp', .slice ab' nb' cb'] 39) = W2 at *
    have ax0_W2 := (ab_W2.cell axL_W1).trans ax0_W1
    have ax1_W2 := (ab_W2.cell axL_W1).trans ax1_W1
    have axF_W2 : ∀ o, W2.frozen? ⟨w.heap.size, o, none⟩ = false := fun o => (ab_W2.frozen axL_W1).trans (axF_W1 o)
    have axL_W2 : w.heap.size < W2.heap.size := Nat.lt_of_lt_of_le axL_W1 ab_W2.size
    have acc_W2 := hidP (acc_W1.out.trans (ab_W2.mono acc_W1.out.size))
    have sz_W2 : Hid (W1.heap.size ≤ W2.heap.size) := hidP ab_W2.size
    clear ab_W2 ax0_W1 ax1_W1 axF_W1 axL_W1 acc_W1
    simp only [as_W1.out] at bx0_W2 bx1_W2 bxF_W2 bxL_W2
    refine (H1.out _ acc_W2.out).mono ?_
    rintro e u0 ⟨rfl, hb0⟩
    have ax0_u0 := (hb0.cell axL_W2).trans ax0_W2
    have ax1_u0 := (hb0.cell axL_W2).trans ax1_W2
    have axF_u0 : ∀ o, u0.frozen? ⟨w.heap.size, o, none⟩ = false := fun o => (hb0.frozen axL_W2).trans (axF_W2 o)
    have axL_u0 : w.heap.size < u0.heap.size := Nat.lt_of_lt_of_le axL_W2 hb0.size
    have bx0_u0 := (hb0.cell bxL_W2).trans bx0_W2
    have bx1_u0 := (hb0.cell bxL_W2).trans bx1_W2
    have bxF_u0 : ∀ o, u0.frozen? ⟨(w.heap.size + 1), o, none⟩ = false := fun o => (hb0.frozen bxL_W2).trans (bxF_W2 o)
    have bxL_u0 : (w.heap.size + 1) < u0.heap.size := Nat.lt_of_lt_of_le bxL_W2 hb0.size
    have acc_u0 := hidP (acc_W2.out.trans (hb0.mono acc_W2.out.size))
    have sz_u0 : Hid (W2.heap.size ≤ u0.heap.size) := hidP hb0.size
    clear hb0 ax0_W2 ax1_W2 axF_W2 axL_W2 bx0_W2 bx1_W2 bxF_W2 bxL_W2 acc_W2
    go_wp2_with fail
    go_ret
    exact ⟨rfl, acc_u0.out⟩
  · go_enter Try.func15, Try.ntmps15
    go_wp2_with fail
    obtain ⟨ax0_W1, ax1_W1⟩ := bxS2 w 39 (.slice ap np cp) (.slice ab nb cb)
    have axF_W1 : ∀ o, (w.alloc (.cells #[.slice ap np cp, .slice ab nb cb] 39)).frozen? ⟨w.heap.size, o, none⟩ = false := fun o => by simp [go_sem]
    have axL_W1 : w.heap.size < (w.alloc (.cells #[.slice ap np cp, .slice ab nb cb] 39)).heap.size := by simp
    have ab_W1 := alloc_below w (.cells #[.slice ap np cp, .slice ab nb cb] 39)
    have as_W1 : Hid ((w.alloc (.cells #[.slice ap np cp, .slice ab nb cb] 39)).heap.size = w.heap.size + 1) := hidP (by simp)
    generalize w.alloc (.cells #[.slice ap np cp, .slice ab nb cb] 39) = W1 at *
    have acc_W1 := hidP (ab_W1)
    have sz_W1 : Hid (w.heap.size ≤ W1.heap.size) := hidP ab_W1.size
    clear ab_W1 
    obtain ⟨bx0_W2, bx1_W2⟩ := bxS2 W1 39 (.slice ap' np' cp') (.slice ab' nb' cb')
    have bxF_W2 : ∀ o, (W1.alloc (.cells #[.slice ap' np' cp', .slice ab' nb' cb'] 39)).frozen? ⟨W1.heap.size, o, none⟩ = false := fun o => by simp [go_sem]
    have bxL_W2 : W1.heap.size < (W1.alloc (.cells #[.slice ap' np' cp', .slice ab' nb' cb'] 39)).heap.size := by simp
    have ab_W2 := alloc_below W1 (.cells #[.slice ap' np' cp', .slice ab' nb' cb'] 39)
    have as_W2 : Hid ((W1.alloc (.cells #[.slice ap' np' cp', .slice ab' nb' cb'] 39)).heap.size = W1.heap.size + 1) := hidP (by simp)
    generalize W1.alloc (.cells #[.slice ap' np' cp', .slice ab' nb' cb'] 39) = W2 at *
    have ax0_W2 := (ab_W2.cell axL_W1).trans ax0_W1
    have ax1_W2 := (ab_W2.cell axL_W1).trans ax1_W1
    have axF_W2 : ∀ o, W2.frozen? ⟨w.heap.size, o, none⟩ = false := fun o => (ab_W2.frozen axL_W1).trans (axF_W1 o)
    have axL_W2 : w.heap.size < W2.heap.size := Nat.lt_of_lt_of_le axL_W1 ab_W2.size
    have acc_W2 := hidP (acc_W1.out.trans (ab_W2.mono acc_W1.out.size))
    have sz_W2 : Hid (W1.heap.size ≤ W2.heap.size) := hidP ab_W2.size
    clear ab_W2 ax0_W1 ax1_W1 axF_W1 axL_W1 acc_W1
    simp only [as_W1.out] at bx0_W2 bx1_W2 bxF_W2 bxL_W2
    refine (H1.out _ acc_W2.out).mono ?_
    rintro e u0 ⟨rfl, hb0⟩
    have ax0_u0 := (hb0.cell axL_W2).trans ax0_W2
    have ax1_u0 := (hb0.cell axL_W2).trans ax1_W2
    have axF_u0 : ∀ o, u0.frozen? ⟨w.heap.size, o, none⟩ = false := fun o => (hb0.frozen axL_W2).trans (axF_W2 o)
    have axL_u0 : w.heap.size < u0.heap.size := Nat.lt_of_lt_of_le axL_W2 hb0.size
    have bx0_u0 := (hb0.cell bxL_W2).trans bx0_W2
    have bx1_u0 := (hb0.cell bxL_W2).trans bx1_W2
    have bxF_u0 : ∀ o, u0.frozen? ⟨(w.heap.size + 1), o, none⟩ = false := fun o => (hb0.frozen bxL_W2).trans (bxF_W2 o)
    have bxL_u0 : (w.heap.size + 1) < u0.heap.size := Nat.lt_of_lt_of_le bxL_W2 hb0.size
    have acc_u0 := hidP (acc_W2.out.trans (hb0.mono acc_W2.out.size))
    have sz_u0 : Hid (W2.heap.size ≤ u0.heap.size) := hidP hb0.size
    clear hb0 ax0_W2 ax1_W2 axF_W2 axL_W2 bx0_W2 bx1_W2 bxF_W2 bxL_W2 acc_W2
    go_wp2_with fail
    refine (H2.out _ acc_u0.out).mono ?_
    rintro e u1 ⟨rfl, hb1⟩
    have ax0_u1 := (hb1.cell axL_u0).trans ax0_u0
    have ax1_u1 := (hb1.cell axL_u0).trans ax1_u0
    have axF_u1 : ∀ o, u1.frozen? ⟨w.heap.size, o, none⟩ = false := fun o => (hb1.frozen axL_u0).trans (axF_u0 o)
    have axL_u1 : w.heap.size < u1.heap.size := Nat.lt_of_lt_of_le axL_u0 hb1.size
    have bx0_u1 := (hb1.cell bxL_u0).trans bx0_u0
    have bx1_u1 := (hb1.cell bxL_u0).trans bx1_u0
    have bxF_u1 : ∀ o, u1.frozen? ⟨(w.heap.size + 1), o, none⟩ = false := fun o => (hb1.frozen bxL_u0).trans (bxF_u0 o)
    have bxL_u1 : (w.heap.size + 1) < u1.heap.size := Nat.lt_of_lt_of_le bxL_u0 hb1.size
    have acc_u1 := hidP (acc_u0.out.trans (hb1.mono acc_u0.out.size))
    have sz_u1 : Hid (u0.heap.size ≤ u1.heap.size) := hidP hb1.size
    clear hb1 ax0_u0 ax1_u0 axF_u0 axL_u0 bx0_u0 bx1_u0 bxF_u0 bxL_u0 acc_u0
    go_wp2_with fail
    go_ret
    exact ⟨rfl, acc_u1.out⟩
set_option maxRecDepth 10000 in
set_option maxHeartbeats 2000000 in
theorem sameBooks_any (al al' : Option Addr) (nl cl nl' cl' : Nat) (T N T' N' : Int) (ls ls' : List Ls) (w : World) (hnl : nl = ls.length) (gnl : nl' = ls'.length) (hL : RowG KLs w al ls) (gL : RowG KLs w al' ls') (hll : nl ≤ 1048576) (gll : nl' ≤ 1048576) :
    Calls Try.prog 16 #[.agg #[.slice al nl cl, .int .i64 T, .int .i64 N], .agg #[.slice al' nl' cl', .int .i64 T', .int .i64 N']] w fun e w' => e = .returned (.bool ((eqlB eqLsB ls ls' && (T == T')) && (N == N'))) ∧ Below w.heap.size w w' := by
  have H1 := hidP (fun W h => eqSlLs_any al al' nl cl nl' cl' ls ls' W hnl gnl (hL.later h) (gL.later h) hll gll)
  clear hL gL hnl gnl
  generalize eqlB eqLsB ls ls' = r1 at *
  cases r1
  · go_enter Try.func16, Try.ntmps16
    go_wp2_with fail
    obtain ⟨ax0_W1, ax1_W1, ax2_W1⟩ := bxS3 w 42 (.slice al nl cl) (.int .i64 T) (.int .i64 N)
    have axF_W1 : ∀ o, (w.alloc (.cells #[.slice al nl cl, .int .i64 T, .int .i64 N] 42)).frozen? ⟨w.heap.size, o, none⟩ = false := fun o => by simp [go_sem]
    have axL_W1 : w.heap.size < (w.alloc (.cells #[.slice al nl cl, .int .i64 T, .int .i64 N] 42)).heap.size := by simp
    have ab_W1 := alloc_below w (.cells #[.slice al nl cl, .int .i64 T, .int .i64 N] 42)
    have as_W1 : Hid ((w.alloc (.cells #[.slice al nl cl, .int .i64 T, .int .i64 N] 42)).heap.size = w.heap.size + 1) := hidP (by simp)
    generalize w.alloc (.cells #[.slice al nl cl, .int .i64 T, .int .i64 N] 42) = W1 at *
    have acc_W1 := hidP (ab_W1)
    have sz_W1 : Hid (w.heap.size ≤ W1.heap.size) := hidP ab_W1.size
    clear ab_W1 
    obtain ⟨bx0_W2, bx1_W2, bx2_W2⟩ := bxS3 W1 42 (.slice al' nl' cl') (.int .i64 T') (.int .i64 N')
    have bxF_W2 : ∀ o, (W1.alloc (.cells #[.slice al' nl' cl', .int .i64 T', .int .i64 N'] 42)).frozen? ⟨W1.heap.size, o, none⟩ = false := fun o => by simp [go_sem]
    have bxL_W2 : W1.heap.size < (W1.alloc (.cells #[.slice al' nl' cl', .int .i64 T', .int .i64 N'] 42)).heap.size := by simp
    have ab_W2 := alloc_below W1 (.cells #[.slice al' nl' cl', .int .i64 T', .int .i64 N'] 42)
    have as_W2 : Hid ((W1.alloc (.cells #[.slice al' nl' cl', .int .i64 T', .int .i64 N'] 42)).heap.size = W1.heap.size + 1) := hidP (by simp)
    generalize W1.alloc (.cells #[.slice al' nl' cl', .int .i64 T', .int .i64 N'] 42) = W2 at *
    have ax0_W2 := (ab_W2.cell axL_W1).trans ax0_W1
    have ax1_W2 := (ab_W2.cell axL_W1).trans ax1_W1
    have ax2_W2 := (ab_W2.cell axL_W1).trans ax2_W1
    have axF_W2 : ∀ o, W2.frozen? ⟨w.heap.size, o, none⟩ = false := fun o => (ab_W2.frozen axL_W1).trans (axF_W1 o)
    have axL_W2 : w.heap.size < W2.heap.size := Nat.lt_of_lt_of_le axL_W1 ab_W2.size
    have acc_W2 := hidP (acc_W1.out.trans (ab_W2.mono acc_W1.out.size))
    have sz_W2 : Hid (W1.heap.size ≤ W2.heap.size) := hidP ab_W2.size
    clear ab_W2 ax0_W1 ax1_W1 ax2_W1 axF_W1 axL_W1 acc_W1
    simp only [as_W1.out] at bx0_W2 bx1_W2 bx2_W2 bxF_W2 bxL_W2
    refine (H1.out _ acc_W2.out).mono ?_
    rintro e u0 ⟨rfl, hb0⟩
    have ax0_u0 := (hb0.cell axL_W2).trans ax0_W2
    have ax1_u0 := (hb0.cell axL_W2).trans ax1_W2
    have ax2_u0 := (hb0.cell axL_W2).trans ax2_W2
    have axF_u0 : ∀ o, u0.frozen? ⟨w.heap.size, o, none⟩ = false := fun o => (hb0.frozen axL_W2).trans (axF_W2 o)
    have axL_u0 : w.heap.size < u0.heap.size := Nat.lt_of_lt_of_le axL_W2 hb0.size
    have bx0_u0 := (hb0.cell bxL_W2).trans bx0_W2
    have bx1_u0 := (hb0.cell bxL_W2).trans bx1_W2
    have bx2_u0 := (hb0.cell bxL_W2).trans bx2_W2
    have bxF_u0 : ∀ o, u0.frozen? ⟨(w.heap.size + 1), o, none⟩ = false := fun o => (hb0.frozen bxL_W2).trans (bxF_W2 o)
    have bxL_u0 : (w.heap.size + 1) < u0.heap.size := Nat.lt_of_lt_of_le bxL_W2 hb0.size
    have acc_u0 := hidP (acc_W2.out.trans (hb0.mono acc_W2.out.size))
    have sz_u0 : Hid (W2.heap.size ≤ u0.heap.size) := hidP hb0.size
    clear hb0 ax0_W2 ax1_W2 ax2_W2 axF_W2 axL_W2 bx0_W2 bx1_W2 bx2_W2 bxF_W2 bxL_W2 acc_W2
    go_wp2_with fail
    go_ret
    exact ⟨rfl, acc_u0.out⟩
  · cases hT : (T == T')
    · go_enter Try.func16, Try.ntmps16
      go_wp2_with fail
      obtain ⟨ax0_W1, ax1_W1, ax2_W1⟩ := bxS3 w 42 (.slice al nl cl) (.int .i64 T) (.int .i64 N)
      have axF_W1 : ∀ o, (w.alloc (.cells #[.slice al nl cl, .int .i64 T, .int .i64 N] 42)).frozen? ⟨w.heap.size, o, none⟩ = false := fun o => by simp [go_sem]
      have axL_W1 : w.heap.size < (w.alloc (.cells #[.slice al nl cl, .int .i64 T, .int .i64 N] 42)).heap.size := by simp
      have ab_W1 := alloc_below w (.cells #[.slice al nl cl, .int .i64 T, .int .i64 N] 42)
      have as_W1 : Hid ((w.alloc (.cells #[.slice al nl cl, .int .i64 T, .int .i64 N] 42)).heap.size = w.heap.size + 1) := hidP (by simp)
      generalize w.alloc (.cells #[.slice al nl cl, .int .i64 T, .int .i64 N] 42) = W1 at *
      have acc_W1 := hidP (ab_W1)
      have sz_W1 : Hid (w.heap.size ≤ W1.heap.size) := hidP ab_W1.size
      clear ab_W1 
      obtain ⟨bx0_W2, bx1_W2, bx2_W2⟩ := bxS3 W1 42 (.slice al' nl' cl') (.int .i64 T') (.int .i64 N')
      have bxF_W2 : ∀ o, (W1.alloc (.cells #[.slice al' nl' cl', .int .i64 T', .int .i64 N'] 42)).frozen? ⟨W1.heap.size, o, none⟩ = false := fun o => by simp [go_sem]
      have bxL_W2 : W1.heap.size < (W1.alloc (.cells #[.slice al' nl' cl', .int .i64 T', .int .i64 N'] 42)).heap.size := by simp
      have ab_W2 := alloc_below W1 (.cells #[.slice al' nl' cl', .int .i64 T', .int .i64 N'] 42)
      have as_W2 : Hid ((W1.alloc (.cells #[.slice al' nl' cl', .int .i64 T', .int .i64 N'] 42)).heap.size = W1.heap.size + 1) := hidP (by simp)
      generalize W1.alloc (.cells #[.slice al' nl' cl', .int .i64 T', .int .i64 N'] 42) = W2 at *
      have ax0_W2 := (ab_W2.cell axL_W1).trans ax0_W1
      have ax1_W2 := (ab_W2.cell axL_W1).trans ax1_W1
      have ax2_W2 := (ab_W2.cell axL_W1).trans ax2_W1
      have axF_W2 : ∀ o, W2.frozen? ⟨w.heap.size, o, none⟩ = false := fun o => (ab_W2.frozen axL_W1).trans (axF_W1 o)
      have axL_W2 : w.heap.size < W2.heap.size := Nat.lt_of_lt_of_le axL_W1 ab_W2.size
      have acc_W2 := hidP (acc_W1.out.trans (ab_W2.mono acc_W1.out.size))
      have sz_W2 : Hid (W1.heap.size ≤ W2.heap.size) := hidP ab_W2.size
      clear ab_W2 ax0_W1 ax1_W1 ax2_W1 axF_W1 axL_W1 acc_W1
      simp only [as_W1.out] at bx0_W2 bx1_W2 bx2_W2 bxF_W2 bxL_W2
      refine (H1.out _ acc_W2.out).mono ?_
      rintro e u0 ⟨rfl, hb0⟩
      have ax0_u0 := (hb0.cell axL_W2).trans ax0_W2
      have ax1_u0 := (hb0.cell axL_W2).trans ax1_W2
      have ax2_u0 := (hb0.cell axL_W2).trans ax2_W2
      have axF_u0 : ∀ o, u0.frozen? ⟨w.heap.size, o, none⟩ = false := fun o => (hb0.frozen axL_W2).trans (axF_W2 o)
      have axL_u0 : w.heap.size < u0.heap.size := Nat.lt_of_lt_of_le axL_W2 hb0.size
      have bx0_u0 := (hb0.cell bxL_W2).trans bx0_W2
      have bx1_u0 := (hb0.cell bxL_W2).trans bx1_W2
      have bx2_u0 := (hb0.cell bxL_W2).trans bx2_W2
      have bxF_u0 : ∀ o, u0.frozen? ⟨(w.heap.size + 1), o, none⟩ = false := fun o => (hb0.frozen bxL_W2).trans (bxF_W2 o)
      have bxL_u0 : (w.heap.size + 1) < u0.heap.size := Nat.lt_of_lt_of_le bxL_W2 hb0.size
      have acc_u0 := hidP (acc_W2.out.trans (hb0.mono acc_W2.out.size))
      have sz_u0 : Hid (W2.heap.size ≤ u0.heap.size) := hidP hb0.size
      clear hb0 ax0_W2 ax1_W2 ax2_W2 axF_W2 axL_W2 bx0_W2 bx1_W2 bx2_W2 bxF_W2 bxL_W2 acc_W2
      go_wp2_with fail
      go_ret
      exact ⟨rfl, acc_u0.out⟩
    · cases hN : (N == N')
      · go_enter Try.func16, Try.ntmps16
        go_wp2_with fail
        obtain ⟨ax0_W1, ax1_W1, ax2_W1⟩ := bxS3 w 42 (.slice al nl cl) (.int .i64 T) (.int .i64 N)
        have axF_W1 : ∀ o, (w.alloc (.cells #[.slice al nl cl, .int .i64 T, .int .i64 N] 42)).frozen? ⟨w.heap.size, o, none⟩ = false := fun o => by simp [go_sem]
        have axL_W1 : w.heap.size < (w.alloc (.cells #[.slice al nl cl, .int .i64 T, .int .i64 N] 42)).heap.size := by simp
        have ab_W1 := alloc_below w (.cells #[.slice al nl cl, .int .i64 T, .int .i64 N] 42)
        have as_W1 : Hid ((w.alloc (.cells #[.slice al nl cl, .int .i64 T, .int .i64 N] 42)).heap.size = w.heap.size + 1) := hidP (by simp)
        generalize w.alloc (.cells #[.slice al nl cl, .int .i64 T, .int .i64 N] 42) = W1 at *
        have acc_W1 := hidP (ab_W1)
        have sz_W1 : Hid (w.heap.size ≤ W1.heap.size) := hidP ab_W1.size
        clear ab_W1 
        obtain ⟨bx0_W2, bx1_W2, bx2_W2⟩ := bxS3 W1 42 (.slice al' nl' cl') (.int .i64 T') (.int .i64 N')
        have bxF_W2 : ∀ o, (W1.alloc (.cells #[.slice al' nl' cl', .int .i64 T', .int .i64 N'] 42)).frozen? ⟨W1.heap.size, o, none⟩ = false := fun o => by simp [go_sem]
        have bxL_W2 : W1.heap.size < (W1.alloc (.cells #[.slice al' nl' cl', .int .i64 T', .int .i64 N'] 42)).heap.size := by simp
        have ab_W2 := alloc_below W1 (.cells #[.slice al' nl' cl', .int .i64 T', .int .i64 N'] 42)
        have as_W2 : Hid ((W1.alloc (.cells #[.slice al' nl' cl', .int .i64 T', .int .i64 N'] 42)).heap.size = W1.heap.size + 1) := hidP (by simp)
        generalize W1.alloc (.cells #[.slice al' nl' cl', .int .i64 T', .int .i64 N'] 42) = W2 at *
        have ax0_W2 := (ab_W2.cell axL_W1).trans ax0_W1
        have ax1_W2 := (ab_W2.cell axL_W1).trans ax1_W1
        have ax2_W2 := (ab_W2.cell axL_W1).trans ax2_W1
        have axF_W2 : ∀ o, W2.frozen? ⟨w.heap.size, o, none⟩ = false := fun o => (ab_W2.frozen axL_W1).trans (axF_W1 o)
        have axL_W2 : w.heap.size < W2.heap.size := Nat.lt_of_lt_of_le axL_W1 ab_W2.size
        have acc_W2 := hidP (acc_W1.out.trans (ab_W2.mono acc_W1.out.size))
        have sz_W2 : Hid (W1.heap.size ≤ W2.heap.size) := hidP ab_W2.size
        clear ab_W2 ax0_W1 ax1_W1 ax2_W1 axF_W1 axL_W1 acc_W1
        simp only [as_W1.out] at bx0_W2 bx1_W2 bx2_W2 bxF_W2 bxL_W2
        refine (H1.out _ acc_W2.out).mono ?_
        rintro e u0 ⟨rfl, hb0⟩
        have ax0_u0 := (hb0.cell axL_W2).trans ax0_W2
        have ax1_u0 := (hb0.cell axL_W2).trans ax1_W2
        have ax2_u0 := (hb0.cell axL_W2).trans ax2_W2
        have axF_u0 : ∀ o, u0.frozen? ⟨w.heap.size, o, none⟩ = false := fun o => (hb0.frozen axL_W2).trans (axF_W2 o)
        have axL_u0 : w.heap.size < u0.heap.size := Nat.lt_of_lt_of_le axL_W2 hb0.size
        have bx0_u0 := (hb0.cell bxL_W2).trans bx0_W2
        have bx1_u0 := (hb0.cell bxL_W2).trans bx1_W2
        have bx2_u0 := (hb0.cell bxL_W2).trans bx2_W2
        have bxF_u0 : ∀ o, u0.frozen? ⟨(w.heap.size + 1), o, none⟩ = false := fun o => (hb0.frozen bxL_W2).trans (bxF_W2 o)
        have bxL_u0 : (w.heap.size + 1) < u0.heap.size := Nat.lt_of_lt_of_le bxL_W2 hb0.size
        have acc_u0 := hidP (acc_W2.out.trans (hb0.mono acc_W2.out.size))
        have sz_u0 : Hid (W2.heap.size ≤ u0.heap.size) := hidP hb0.size
        clear hb0 ax0_W2 ax1_W2 ax2_W2 axF_W2 axL_W2 bx0_W2 bx1_W2 bx2_W2 bxF_W2 bxL_W2 acc_W2
        go_wp2_with fail
        go_ret
        exact ⟨rfl, acc_u0.out⟩
      · go_enter Try.func16, Try.ntmps16
        go_wp2_with fail
        obtain ⟨ax0_W1, ax1_W1, ax2_W1⟩ := bxS3 w 42 (.slice al nl cl) (.int .i64 T) (.int .i64 N)
        have axF_W1 : ∀ o, (w.alloc (.cells #[.slice al nl cl, .int .i64 T, .int .i64 N] 42)).frozen? ⟨w.heap.size, o, none⟩ = false := fun o => by simp [go_sem]
        have axL_W1 : w.heap.size < (w.alloc (.cells #[.slice al nl cl, .int .i64 T, .int .i64 N] 42)).heap.size := by simp
        have ab_W1 := alloc_below w (.cells #[.slice al nl cl, .int .i64 T, .int .i64 N] 42)
        have as_W1 : Hid ((w.alloc (.cells #[.slice al nl cl, .int .i64 T, .int .i64 N] 42)).heap.size = w.heap.size + 1) := hidP (by simp)
        generalize w.alloc (.cells #[.slice al nl cl, .int .i64 T, .int .i64 N] 42) = W1 at *
        have acc_W1 := hidP (ab_W1)
        have sz_W1 : Hid (w.heap.size ≤ W1.heap.size) := hidP ab_W1.size
        clear ab_W1 
        obtain ⟨bx0_W2, bx1_W2, bx2_W2⟩ := bxS3 W1 42 (.slice al' nl' cl') (.int .i64 T') (.int .i64 N')
        have bxF_W2 : ∀ o, (W1.alloc (.cells #[.slice al' nl' cl', .int .i64 T', .int .i64 N'] 42)).frozen? ⟨W1.heap.size, o, none⟩ = false := fun o => by simp [go_sem]
        have bxL_W2 : W1.heap.size < (W1.alloc (.cells #[.slice al' nl' cl', .int .i64 T', .int .i64 N'] 42)).heap.size := by simp
        have ab_W2 := alloc_below W1 (.cells #[.slice al' nl' cl', .int .i64 T', .int .i64 N'] 42)
        have as_W2 : Hid ((W1.alloc (.cells #[.slice al' nl' cl', .int .i64 T', .int .i64 N'] 42)).heap.size = W1.heap.size + 1) := hidP (by simp)
        generalize W1.alloc (.cells #[.slice al' nl' cl', .int .i64 T', .int .i64 N'] 42) = W2 at *
        have ax0_W2 := (ab_W2.cell axL_W1).trans ax0_W1
        have ax1_W2 := (ab_W2.cell axL_W1).trans ax1_W1
        have ax2_W2 := (ab_W2.cell axL_W1).trans ax2_W1
        have axF_W2 : ∀ o, W2.frozen? ⟨w.heap.size, o, none⟩ = false := fun o => (ab_W2.frozen axL_W1).trans (axF_W1 o)
        have axL_W2 : w.heap.size < W2.heap.size := Nat.lt_of_lt_of_le axL_W1 ab_W2.size
        have acc_W2 := hidP (acc_W1.out.trans (ab_W2.mono acc_W1.out.size))
        have sz_W2 : Hid (W1.heap.size ≤ W2.heap.size) := hidP ab_W2.size
        clear ab_W2 ax0_W1 ax1_W1 ax2_W1 axF_W1 axL_W1 acc_W1
        simp only [as_W1.out] at bx0_W2 bx1_W2 bx2_W2 bxF_W2 bxL_W2
        refine (H1.out _ acc_W2.out).mono ?_
        rintro e u0 ⟨rfl, hb0⟩
        have ax0_u0 := (hb0.cell axL_W2).trans ax0_W2
        have ax1_u0 := (hb0.cell axL_W2).trans ax1_W2
        have ax2_u0 := (hb0.cell axL_W2).trans ax2_W2
        have axF_u0 : ∀ o, u0.frozen? ⟨w.heap.size, o, none⟩ = false := fun o => (hb0.frozen axL_W2).trans (axF_W2 o)
        have axL_u0 : w.heap.size < u0.heap.size := Nat.lt_of_lt_of_le axL_W2 hb0.size
        have bx0_u0 := (hb0.cell bxL_W2).trans bx0_W2
        have bx1_u0 := (hb0.cell bxL_W2).trans bx1_W2
        have bx2_u0 := (hb0.cell bxL_W2).trans bx2_W2
        have bxF_u0 : ∀ o, u0.frozen? ⟨(w.heap.size + 1), o, none⟩ = false := fun o => (hb0.frozen bxL_W2).trans (bxF_W2 o)
        have bxL_u0 : (w.heap.size + 1) < u0.heap.size := Nat.lt_of_lt_of_le bxL_W2 hb0.size
        have acc_u0 := hidP (acc_W2.out.trans (hb0.mono acc_W2.out.size))
        have sz_u0 : Hid (W2.heap.size ≤ u0.heap.size) := hidP hb0.size
        clear hb0 ax0_W2 ax1_W2 ax2_W2 axF_W2 axL_W2 bx0_W2 bx1_W2 bx2_W2 bxF_W2 bxL_W2 acc_W2
        go_wp2_with fail
        go_ret
        exact ⟨rfl, acc_u0.out⟩
set_option maxRecDepth 10000 in
set_option maxHeartbeats 2000000 in
theorem sameDesks_any (aS aS' : Option Addr) (ns cs ns' cs' : Nat) (X X' : Int) (ss ss' : List Ss) (w : World) (hns : ns = ss.length) (gns : ns' = ss'.length) (hS : RowG KSs w aS ss) (gS : RowG KSs w aS' ss') (hls : ns ≤ 1048576) (gls : ns' ≤ 1048576) :
    Calls Try.prog 17 #[.agg #[.slice aS ns cs, .int .i64 X], .agg #[.slice aS' ns' cs', .int .i64 X']] w fun e w' => e = .returned (.bool (eqlB eqSsB ss ss' && (X == X'))) ∧ Below w.heap.size w w' := by
  have H1 := hidP (fun W h => eqSlSs_any aS aS' ns cs ns' cs' ss ss' W hns gns (hS.later h) (gS.later h) hls gls)
  clear hS gS hns gns
  generalize eqlB eqSsB ss ss' = r1 at *
  cases r1
  · go_enter Try.func17, Try.ntmps17
    go_wp2_with fail
    obtain ⟨ax0_W1, ax1_W1⟩ := bxS2 w 45 (.slice aS ns cs) (.int .i64 X)
    have axF_W1 : ∀ o, (w.alloc (.cells #[.slice aS ns cs, .int .i64 X] 45)).frozen? ⟨w.heap.size, o, none⟩ = false := fun o => by simp [go_sem]
    have axL_W1 : w.heap.size < (w.alloc (.cells #[.slice aS ns cs, .int .i64 X] 45)).heap.size := by simp
    have ab_W1 := alloc_below w (.cells #[.slice aS ns cs, .int .i64 X] 45)
    have as_W1 : Hid ((w.alloc (.cells #[.slice aS ns cs, .int .i64 X] 45)).heap.size = w.heap.size + 1) := hidP (by simp)
    generalize w.alloc (.cells #[.slice aS ns cs, .int .i64 X] 45) = W1 at *
    have acc_W1 := hidP (ab_W1)
    have sz_W1 : Hid (w.heap.size ≤ W1.heap.size) := hidP ab_W1.size
    clear ab_W1 
    obtain ⟨bx0_W2, bx1_W2⟩ := bxS2 W1 45 (.slice aS' ns' cs') (.int .i64 X')
    have bxF_W2 : ∀ o, (W1.alloc (.cells #[.slice aS' ns' cs', .int .i64 X'] 45)).frozen? ⟨W1.heap.size, o, none⟩ = false := fun o => by simp [go_sem]
    have bxL_W2 : W1.heap.size < (W1.alloc (.cells #[.slice aS' ns' cs', .int .i64 X'] 45)).heap.size := by simp
    have ab_W2 := alloc_below W1 (.cells #[.slice aS' ns' cs', .int .i64 X'] 45)
    have as_W2 : Hid ((W1.alloc (.cells #[.slice aS' ns' cs', .int .i64 X'] 45)).heap.size = W1.heap.size + 1) := hidP (by simp)
    generalize W1.alloc (.cells #[.slice aS' ns' cs', .int .i64 X'] 45) = W2 at *
    have ax0_W2 := (ab_W2.cell axL_W1).trans ax0_W1
    have ax1_W2 := (ab_W2.cell axL_W1).trans ax1_W1
    have axF_W2 : ∀ o, W2.frozen? ⟨w.heap.size, o, none⟩ = false := fun o => (ab_W2.frozen axL_W1).trans (axF_W1 o)
    have axL_W2 : w.heap.size < W2.heap.size := Nat.lt_of_lt_of_le axL_W1 ab_W2.size
    have acc_W2 := hidP (acc_W1.out.trans (ab_W2.mono acc_W1.out.size))
    have sz_W2 : Hid (W1.heap.size ≤ W2.heap.size) := hidP ab_W2.size
    clear ab_W2 ax0_W1 ax1_W1 axF_W1 axL_W1 acc_W1
    simp only [as_W1.out] at bx0_W2 bx1_W2 bxF_W2 bxL_W2
    refine (H1.out _ acc_W2.out).mono ?_
    rintro e u0 ⟨rfl, hb0⟩
    have ax0_u0 := (hb0.cell axL_W2).trans ax0_W2
    have ax1_u0 := (hb0.cell axL_W2).trans ax1_W2
    have axF_u0 : ∀ o, u0.frozen? ⟨w.heap.size, o, none⟩ = false := fun o => (hb0.frozen axL_W2).trans (axF_W2 o)
    have axL_u0 : w.heap.size < u0.heap.size := Nat.lt_of_lt_of_le axL_W2 hb0.size
    have bx0_u0 := (hb0.cell bxL_W2).trans bx0_W2
    have bx1_u0 := (hb0.cell bxL_W2).trans bx1_W2
    have bxF_u0 : ∀ o, u0.frozen? ⟨(w.heap.size + 1), o, none⟩ = false := fun o => (hb0.frozen bxL_W2).trans (bxF_W2 o)
    have bxL_u0 : (w.heap.size + 1) < u0.heap.size := Nat.lt_of_lt_of_le bxL_W2 hb0.size
    have acc_u0 := hidP (acc_W2.out.trans (hb0.mono acc_W2.out.size))
    have sz_u0 : Hid (W2.heap.size ≤ u0.heap.size) := hidP hb0.size
    clear hb0 ax0_W2 ax1_W2 axF_W2 axL_W2 bx0_W2 bx1_W2 bxF_W2 bxL_W2 acc_W2
    go_wp2_with fail
    go_ret
    exact ⟨rfl, acc_u0.out⟩
  · cases hX : (X == X')
    · go_enter Try.func17, Try.ntmps17
      go_wp2_with fail
      obtain ⟨ax0_W1, ax1_W1⟩ := bxS2 w 45 (.slice aS ns cs) (.int .i64 X)
      have axF_W1 : ∀ o, (w.alloc (.cells #[.slice aS ns cs, .int .i64 X] 45)).frozen? ⟨w.heap.size, o, none⟩ = false := fun o => by simp [go_sem]
      have axL_W1 : w.heap.size < (w.alloc (.cells #[.slice aS ns cs, .int .i64 X] 45)).heap.size := by simp
      have ab_W1 := alloc_below w (.cells #[.slice aS ns cs, .int .i64 X] 45)
      have as_W1 : Hid ((w.alloc (.cells #[.slice aS ns cs, .int .i64 X] 45)).heap.size = w.heap.size + 1) := hidP (by simp)
      generalize w.alloc (.cells #[.slice aS ns cs, .int .i64 X] 45) = W1 at *
      have acc_W1 := hidP (ab_W1)
      have sz_W1 : Hid (w.heap.size ≤ W1.heap.size) := hidP ab_W1.size
      clear ab_W1 
      obtain ⟨bx0_W2, bx1_W2⟩ := bxS2 W1 45 (.slice aS' ns' cs') (.int .i64 X')
      have bxF_W2 : ∀ o, (W1.alloc (.cells #[.slice aS' ns' cs', .int .i64 X'] 45)).frozen? ⟨W1.heap.size, o, none⟩ = false := fun o => by simp [go_sem]
      have bxL_W2 : W1.heap.size < (W1.alloc (.cells #[.slice aS' ns' cs', .int .i64 X'] 45)).heap.size := by simp
      have ab_W2 := alloc_below W1 (.cells #[.slice aS' ns' cs', .int .i64 X'] 45)
      have as_W2 : Hid ((W1.alloc (.cells #[.slice aS' ns' cs', .int .i64 X'] 45)).heap.size = W1.heap.size + 1) := hidP (by simp)
      generalize W1.alloc (.cells #[.slice aS' ns' cs', .int .i64 X'] 45) = W2 at *
      have ax0_W2 := (ab_W2.cell axL_W1).trans ax0_W1
      have ax1_W2 := (ab_W2.cell axL_W1).trans ax1_W1
      have axF_W2 : ∀ o, W2.frozen? ⟨w.heap.size, o, none⟩ = false := fun o => (ab_W2.frozen axL_W1).trans (axF_W1 o)
      have axL_W2 : w.heap.size < W2.heap.size := Nat.lt_of_lt_of_le axL_W1 ab_W2.size
      have acc_W2 := hidP (acc_W1.out.trans (ab_W2.mono acc_W1.out.size))
      have sz_W2 : Hid (W1.heap.size ≤ W2.heap.size) := hidP ab_W2.size
      clear ab_W2 ax0_W1 ax1_W1 axF_W1 axL_W1 acc_W1
      simp only [as_W1.out] at bx0_W2 bx1_W2 bxF_W2 bxL_W2
      refine (H1.out _ acc_W2.out).mono ?_
      rintro e u0 ⟨rfl, hb0⟩
      have ax0_u0 := (hb0.cell axL_W2).trans ax0_W2
      have ax1_u0 := (hb0.cell axL_W2).trans ax1_W2
      have axF_u0 : ∀ o, u0.frozen? ⟨w.heap.size, o, none⟩ = false := fun o => (hb0.frozen axL_W2).trans (axF_W2 o)
      have axL_u0 : w.heap.size < u0.heap.size := Nat.lt_of_lt_of_le axL_W2 hb0.size
      have bx0_u0 := (hb0.cell bxL_W2).trans bx0_W2
      have bx1_u0 := (hb0.cell bxL_W2).trans bx1_W2
      have bxF_u0 : ∀ o, u0.frozen? ⟨(w.heap.size + 1), o, none⟩ = false := fun o => (hb0.frozen bxL_W2).trans (bxF_W2 o)
      have bxL_u0 : (w.heap.size + 1) < u0.heap.size := Nat.lt_of_lt_of_le bxL_W2 hb0.size
      have acc_u0 := hidP (acc_W2.out.trans (hb0.mono acc_W2.out.size))
      have sz_u0 : Hid (W2.heap.size ≤ u0.heap.size) := hidP hb0.size
      clear hb0 ax0_W2 ax1_W2 axF_W2 axL_W2 bx0_W2 bx1_W2 bxF_W2 bxL_W2 acc_W2
      go_wp2_with fail
      go_ret
      exact ⟨rfl, acc_u0.out⟩
    · go_enter Try.func17, Try.ntmps17
      go_wp2_with fail
      obtain ⟨ax0_W1, ax1_W1⟩ := bxS2 w 45 (.slice aS ns cs) (.int .i64 X)
      have axF_W1 : ∀ o, (w.alloc (.cells #[.slice aS ns cs, .int .i64 X] 45)).frozen? ⟨w.heap.size, o, none⟩ = false := fun o => by simp [go_sem]
      have axL_W1 : w.heap.size < (w.alloc (.cells #[.slice aS ns cs, .int .i64 X] 45)).heap.size := by simp
      have ab_W1 := alloc_below w (.cells #[.slice aS ns cs, .int .i64 X] 45)
      have as_W1 : Hid ((w.alloc (.cells #[.slice aS ns cs, .int .i64 X] 45)).heap.size = w.heap.size + 1) := hidP (by simp)
      generalize w.alloc (.cells #[.slice aS ns cs, .int .i64 X] 45) = W1 at *
      have acc_W1 := hidP (ab_W1)
      have sz_W1 : Hid (w.heap.size ≤ W1.heap.size) := hidP ab_W1.size
      clear ab_W1 
      obtain ⟨bx0_W2, bx1_W2⟩ := bxS2 W1 45 (.slice aS' ns' cs') (.int .i64 X')
      have bxF_W2 : ∀ o, (W1.alloc (.cells #[.slice aS' ns' cs', .int .i64 X'] 45)).frozen? ⟨W1.heap.size, o, none⟩ = false := fun o => by simp [go_sem]
      have bxL_W2 : W1.heap.size < (W1.alloc (.cells #[.slice aS' ns' cs', .int .i64 X'] 45)).heap.size := by simp
      have ab_W2 := alloc_below W1 (.cells #[.slice aS' ns' cs', .int .i64 X'] 45)
      have as_W2 : Hid ((W1.alloc (.cells #[.slice aS' ns' cs', .int .i64 X'] 45)).heap.size = W1.heap.size + 1) := hidP (by simp)
      generalize W1.alloc (.cells #[.slice aS' ns' cs', .int .i64 X'] 45) = W2 at *
      have ax0_W2 := (ab_W2.cell axL_W1).trans ax0_W1
      have ax1_W2 := (ab_W2.cell axL_W1).trans ax1_W1
      have axF_W2 : ∀ o, W2.frozen? ⟨w.heap.size, o, none⟩ = false := fun o => (ab_W2.frozen axL_W1).trans (axF_W1 o)
      have axL_W2 : w.heap.size < W2.heap.size := Nat.lt_of_lt_of_le axL_W1 ab_W2.size
      have acc_W2 := hidP (acc_W1.out.trans (ab_W2.mono acc_W1.out.size))
      have sz_W2 : Hid (W1.heap.size ≤ W2.heap.size) := hidP ab_W2.size
      clear ab_W2 ax0_W1 ax1_W1 axF_W1 axL_W1 acc_W1
      simp only [as_W1.out] at bx0_W2 bx1_W2 bxF_W2 bxL_W2
      refine (H1.out _ acc_W2.out).mono ?_
      rintro e u0 ⟨rfl, hb0⟩
      have ax0_u0 := (hb0.cell axL_W2).trans ax0_W2
      have ax1_u0 := (hb0.cell axL_W2).trans ax1_W2
      have axF_u0 : ∀ o, u0.frozen? ⟨w.heap.size, o, none⟩ = false := fun o => (hb0.frozen axL_W2).trans (axF_W2 o)
      have axL_u0 : w.heap.size < u0.heap.size := Nat.lt_of_lt_of_le axL_W2 hb0.size
      have bx0_u0 := (hb0.cell bxL_W2).trans bx0_W2
      have bx1_u0 := (hb0.cell bxL_W2).trans bx1_W2
      have bxF_u0 : ∀ o, u0.frozen? ⟨(w.heap.size + 1), o, none⟩ = false := fun o => (hb0.frozen bxL_W2).trans (bxF_W2 o)
      have bxL_u0 : (w.heap.size + 1) < u0.heap.size := Nat.lt_of_lt_of_le bxL_W2 hb0.size
      have acc_u0 := hidP (acc_W2.out.trans (hb0.mono acc_W2.out.size))
      have sz_u0 : Hid (W2.heap.size ≤ u0.heap.size) := hidP hb0.size
      clear hb0 ax0_W2 ax1_W2 axF_W2 axL_W2 bx0_W2 bx1_W2 bxF_W2 bxL_W2 acc_W2
      go_wp2_with fail
      go_ret
      exact ⟨rfl, acc_u0.out⟩
set_option maxRecDepth 10000 in
set_option maxHeartbeats 4000000 in
theorem iSame_any (ap : Option Addr) (np cp : Nat) (ab : Option Addr) (nb cb : Nat) (al : Option Addr) (nl cl : Nat) (T N : Int) (aS : Option Addr) (ns cs : Nat) (X C : Int) (ps : List Pl) (bs : List Bk) (ls : List Ls) (ss : List Ss) (ap' : Option Addr) (np' cp' : Nat) (ab' : Option Addr) (nb' cb' : Nat) (al' : Option Addr) (nl' cl' : Nat) (T' N' : Int) (aS' : Option Addr) (ns' cs' : Nat) (X' C' : Int) (ps' : List Pl) (bs' : List Bk) (ls' : List Ls) (ss' : List Ss) (w : World) (hnp : np = ps.length) (hnb : nb = bs.length) (hnl : nl = ls.length) (hns : ns = ss.length) (gnp : np' = ps'.length) (gnb : nb' = bs'.length) (gnl : nl' = ls'.length) (gns : ns' = ss'.length) (hP : RowG KPl w ap ps) (hK : RowG KBk w ab bs) (hL : RowG KLs w al ls) (hS : RowG KSs w aS ss) (gP : RowG KPl w ap' ps') (gK : RowG KBk w ab' bs') (gL : RowG KLs w al' ls') (gS : RowG KSs w aS' ss') (hlp : np ≤ 1048576) (hlb : nb ≤ 1048576) (hll : nl ≤ 1048576) (hls : ns ≤ 1048576) (glp : np' ≤ 1048576) (glb : nb' ≤ 1048576) (gll : nl' ≤ 1048576) (gls : ns' ≤ 1048576) :
    Calls Try.prog 7 #[.agg #[.slice ap np cp, .slice ab nb cb, .slice al nl cl, .int .i64 T, .int .i64 N, .slice aS ns cs, .int .i64 X, .int .i64 C], .agg #[.slice ap' np' cp', .slice ab' nb' cb', .slice al' nl' cl', .int .i64 T', .int .i64 N', .slice aS' ns' cs', .int .i64 X', .int .i64 C']] w fun e w' => e = .returned (.bool (sameB ps bs ls T N ss X C ps' bs' ls' T' N' ss' X' C')) ∧ Below w.heap.size w w' := by
  have HP := hidP (fun W h => samePlans_any ap ab ap' ab' np cp nb cb np' cp' nb' cb' ps ps' bs bs' W hnp hnb gnp gnb (hP.later h) (hK.later h) (gP.later h) (gK.later h) hlp hlb glp glb)
  have HB := hidP (fun W h => sameBooks_any al al' nl cl nl' cl' T N T' N' ls ls' W hnl gnl (hL.later h) (gL.later h) hll gll)
  have HD := hidP (fun W h => sameDesks_any aS aS' ns cs ns' cs' X X' ss ss' W hns gns (hS.later h) (gS.later h) hls gls)
  clear hP hK hL hS gP gK gL gS hnp hnb hnl hns gnp gnb gnl gns
  unfold sameB
  generalize (eqlB eqPlB ps ps' && eqlB eqBkB bs bs') = r1 at *
  generalize ((eqlB eqLsB ls ls' && (T == T')) && (N == N')) = r2 at *
  generalize (eqlB eqSsB ss ss' && (X == X')) = r3 at *
  cases r1
  · go_enter Try.func7, Try.ntmps7
    go_wp2_with fail
    obtain ⟨ax0_W1, ax1_W1, ax2_W1, ax3_W1, ax4_W1, ax5_W1, ax6_W1, ax7_W1⟩ := bx8 w 47 (.slice ap np cp) (.slice ab nb cb) (.slice al nl cl) (.int .i64 T) (.int .i64 N) (.slice aS ns cs) (.int .i64 X) (.int .i64 C)
    have axF_W1 : ∀ o, (w.alloc (.cells #[.slice ap np cp, .slice ab nb cb, .slice al nl cl, .int .i64 T, .int .i64 N, .slice aS ns cs, .int .i64 X, .int .i64 C] 47)).frozen? ⟨w.heap.size, o, none⟩ = false := fun o => by simp [go_sem]
    have axL_W1 : w.heap.size < (w.alloc (.cells #[.slice ap np cp, .slice ab nb cb, .slice al nl cl, .int .i64 T, .int .i64 N, .slice aS ns cs, .int .i64 X, .int .i64 C] 47)).heap.size := by simp
    have ab_W1 := alloc_below w (.cells #[.slice ap np cp, .slice ab nb cb, .slice al nl cl, .int .i64 T, .int .i64 N, .slice aS ns cs, .int .i64 X, .int .i64 C] 47)
    have as_W1 : Hid ((w.alloc (.cells #[.slice ap np cp, .slice ab nb cb, .slice al nl cl, .int .i64 T, .int .i64 N, .slice aS ns cs, .int .i64 X, .int .i64 C] 47)).heap.size = w.heap.size + 1) := hidP (by simp)
    generalize w.alloc (.cells #[.slice ap np cp, .slice ab nb cb, .slice al nl cl, .int .i64 T, .int .i64 N, .slice aS ns cs, .int .i64 X, .int .i64 C] 47) = W1 at *
    have acc_W1 := hidP (ab_W1)
    have sz_W1 : Hid (w.heap.size ≤ W1.heap.size) := hidP ab_W1.size
    clear ab_W1 
    obtain ⟨bx0_W2, bx1_W2, bx2_W2, bx3_W2, bx4_W2, bx5_W2, bx6_W2, bx7_W2⟩ := bx8 W1 47 (.slice ap' np' cp') (.slice ab' nb' cb') (.slice al' nl' cl') (.int .i64 T') (.int .i64 N') (.slice aS' ns' cs') (.int .i64 X') (.int .i64 C')
    have bxF_W2 : ∀ o, (W1.alloc (.cells #[.slice ap' np' cp', .slice ab' nb' cb', .slice al' nl' cl', .int .i64 T', .int .i64 N', .slice aS' ns' cs', .int .i64 X', .int .i64 C'] 47)).frozen? ⟨W1.heap.size, o, none⟩ = false := fun o => by simp [go_sem]
    have bxL_W2 : W1.heap.size < (W1.alloc (.cells #[.slice ap' np' cp', .slice ab' nb' cb', .slice al' nl' cl', .int .i64 T', .int .i64 N', .slice aS' ns' cs', .int .i64 X', .int .i64 C'] 47)).heap.size := by simp
    have ab_W2 := alloc_below W1 (.cells #[.slice ap' np' cp', .slice ab' nb' cb', .slice al' nl' cl', .int .i64 T', .int .i64 N', .slice aS' ns' cs', .int .i64 X', .int .i64 C'] 47)
    have as_W2 : Hid ((W1.alloc (.cells #[.slice ap' np' cp', .slice ab' nb' cb', .slice al' nl' cl', .int .i64 T', .int .i64 N', .slice aS' ns' cs', .int .i64 X', .int .i64 C'] 47)).heap.size = W1.heap.size + 1) := hidP (by simp)
    generalize W1.alloc (.cells #[.slice ap' np' cp', .slice ab' nb' cb', .slice al' nl' cl', .int .i64 T', .int .i64 N', .slice aS' ns' cs', .int .i64 X', .int .i64 C'] 47) = W2 at *
    have ax0_W2 := (ab_W2.cell axL_W1).trans ax0_W1
    have ax1_W2 := (ab_W2.cell axL_W1).trans ax1_W1
    have ax2_W2 := (ab_W2.cell axL_W1).trans ax2_W1
    have ax3_W2 := (ab_W2.cell axL_W1).trans ax3_W1
    have ax4_W2 := (ab_W2.cell axL_W1).trans ax4_W1
    have ax5_W2 := (ab_W2.cell axL_W1).trans ax5_W1
    have ax6_W2 := (ab_W2.cell axL_W1).trans ax6_W1
    have ax7_W2 := (ab_W2.cell axL_W1).trans ax7_W1
    have axF_W2 : ∀ o, W2.frozen? ⟨w.heap.size, o, none⟩ = false := fun o => (ab_W2.frozen axL_W1).trans (axF_W1 o)
    have axL_W2 : w.heap.size < W2.heap.size := Nat.lt_of_lt_of_le axL_W1 ab_W2.size
    have acc_W2 := hidP (acc_W1.out.trans (ab_W2.mono acc_W1.out.size))
    have sz_W2 : Hid (W1.heap.size ≤ W2.heap.size) := hidP ab_W2.size
    clear ab_W2 ax0_W1 ax1_W1 ax2_W1 ax3_W1 ax4_W1 ax5_W1 ax6_W1 ax7_W1 axF_W1 axL_W1 acc_W1
    simp only [as_W1.out] at bx0_W2 bx1_W2 bx2_W2 bx3_W2 bx4_W2 bx5_W2 bx6_W2 bx7_W2 bxF_W2 bxL_W2
    refine (HP.out _ acc_W2.out).mono ?_
    rintro e u0 ⟨rfl, hb0⟩
    have ax0_u0 := (hb0.cell axL_W2).trans ax0_W2
    have ax1_u0 := (hb0.cell axL_W2).trans ax1_W2
    have ax2_u0 := (hb0.cell axL_W2).trans ax2_W2
    have ax3_u0 := (hb0.cell axL_W2).trans ax3_W2
    have ax4_u0 := (hb0.cell axL_W2).trans ax4_W2
    have ax5_u0 := (hb0.cell axL_W2).trans ax5_W2
    have ax6_u0 := (hb0.cell axL_W2).trans ax6_W2
    have ax7_u0 := (hb0.cell axL_W2).trans ax7_W2
    have axF_u0 : ∀ o, u0.frozen? ⟨w.heap.size, o, none⟩ = false := fun o => (hb0.frozen axL_W2).trans (axF_W2 o)
    have axL_u0 : w.heap.size < u0.heap.size := Nat.lt_of_lt_of_le axL_W2 hb0.size
    have bx0_u0 := (hb0.cell bxL_W2).trans bx0_W2
    have bx1_u0 := (hb0.cell bxL_W2).trans bx1_W2
    have bx2_u0 := (hb0.cell bxL_W2).trans bx2_W2
    have bx3_u0 := (hb0.cell bxL_W2).trans bx3_W2
    have bx4_u0 := (hb0.cell bxL_W2).trans bx4_W2
    have bx5_u0 := (hb0.cell bxL_W2).trans bx5_W2
    have bx6_u0 := (hb0.cell bxL_W2).trans bx6_W2
    have bx7_u0 := (hb0.cell bxL_W2).trans bx7_W2
    have bxF_u0 : ∀ o, u0.frozen? ⟨(w.heap.size + 1), o, none⟩ = false := fun o => (hb0.frozen bxL_W2).trans (bxF_W2 o)
    have bxL_u0 : (w.heap.size + 1) < u0.heap.size := Nat.lt_of_lt_of_le bxL_W2 hb0.size
    have acc_u0 := hidP (acc_W2.out.trans (hb0.mono acc_W2.out.size))
    have sz_u0 : Hid (W2.heap.size ≤ u0.heap.size) := hidP hb0.size
    clear hb0 ax0_W2 ax1_W2 ax2_W2 ax3_W2 ax4_W2 ax5_W2 ax6_W2 ax7_W2 axF_W2 axL_W2 bx0_W2 bx1_W2 bx2_W2 bx3_W2 bx4_W2 bx5_W2 bx6_W2 bx7_W2 bxF_W2 bxL_W2 acc_W2
    go_wp2_with fail
    go_ret
    exact ⟨rfl, acc_u0.out⟩
  · cases r2
    · go_enter Try.func7, Try.ntmps7
      go_wp2_with fail
      obtain ⟨ax0_W1, ax1_W1, ax2_W1, ax3_W1, ax4_W1, ax5_W1, ax6_W1, ax7_W1⟩ := bx8 w 47 (.slice ap np cp) (.slice ab nb cb) (.slice al nl cl) (.int .i64 T) (.int .i64 N) (.slice aS ns cs) (.int .i64 X) (.int .i64 C)
      have axF_W1 : ∀ o, (w.alloc (.cells #[.slice ap np cp, .slice ab nb cb, .slice al nl cl, .int .i64 T, .int .i64 N, .slice aS ns cs, .int .i64 X, .int .i64 C] 47)).frozen? ⟨w.heap.size, o, none⟩ = false := fun o => by simp [go_sem]
      have axL_W1 : w.heap.size < (w.alloc (.cells #[.slice ap np cp, .slice ab nb cb, .slice al nl cl, .int .i64 T, .int .i64 N, .slice aS ns cs, .int .i64 X, .int .i64 C] 47)).heap.size := by simp
      have ab_W1 := alloc_below w (.cells #[.slice ap np cp, .slice ab nb cb, .slice al nl cl, .int .i64 T, .int .i64 N, .slice aS ns cs, .int .i64 X, .int .i64 C] 47)
      have as_W1 : Hid ((w.alloc (.cells #[.slice ap np cp, .slice ab nb cb, .slice al nl cl, .int .i64 T, .int .i64 N, .slice aS ns cs, .int .i64 X, .int .i64 C] 47)).heap.size = w.heap.size + 1) := hidP (by simp)
      generalize w.alloc (.cells #[.slice ap np cp, .slice ab nb cb, .slice al nl cl, .int .i64 T, .int .i64 N, .slice aS ns cs, .int .i64 X, .int .i64 C] 47) = W1 at *
      have acc_W1 := hidP (ab_W1)
      have sz_W1 : Hid (w.heap.size ≤ W1.heap.size) := hidP ab_W1.size
      clear ab_W1 
      obtain ⟨bx0_W2, bx1_W2, bx2_W2, bx3_W2, bx4_W2, bx5_W2, bx6_W2, bx7_W2⟩ := bx8 W1 47 (.slice ap' np' cp') (.slice ab' nb' cb') (.slice al' nl' cl') (.int .i64 T') (.int .i64 N') (.slice aS' ns' cs') (.int .i64 X') (.int .i64 C')
      have bxF_W2 : ∀ o, (W1.alloc (.cells #[.slice ap' np' cp', .slice ab' nb' cb', .slice al' nl' cl', .int .i64 T', .int .i64 N', .slice aS' ns' cs', .int .i64 X', .int .i64 C'] 47)).frozen? ⟨W1.heap.size, o, none⟩ = false := fun o => by simp [go_sem]
      have bxL_W2 : W1.heap.size < (W1.alloc (.cells #[.slice ap' np' cp', .slice ab' nb' cb', .slice al' nl' cl', .int .i64 T', .int .i64 N', .slice aS' ns' cs', .int .i64 X', .int .i64 C'] 47)).heap.size := by simp
      have ab_W2 := alloc_below W1 (.cells #[.slice ap' np' cp', .slice ab' nb' cb', .slice al' nl' cl', .int .i64 T', .int .i64 N', .slice aS' ns' cs', .int .i64 X', .int .i64 C'] 47)
      have as_W2 : Hid ((W1.alloc (.cells #[.slice ap' np' cp', .slice ab' nb' cb', .slice al' nl' cl', .int .i64 T', .int .i64 N', .slice aS' ns' cs', .int .i64 X', .int .i64 C'] 47)).heap.size = W1.heap.size + 1) := hidP (by simp)
      generalize W1.alloc (.cells #[.slice ap' np' cp', .slice ab' nb' cb', .slice al' nl' cl', .int .i64 T', .int .i64 N', .slice aS' ns' cs', .int .i64 X', .int .i64 C'] 47) = W2 at *
      have ax0_W2 := (ab_W2.cell axL_W1).trans ax0_W1
      have ax1_W2 := (ab_W2.cell axL_W1).trans ax1_W1
      have ax2_W2 := (ab_W2.cell axL_W1).trans ax2_W1
      have ax3_W2 := (ab_W2.cell axL_W1).trans ax3_W1
      have ax4_W2 := (ab_W2.cell axL_W1).trans ax4_W1
      have ax5_W2 := (ab_W2.cell axL_W1).trans ax5_W1
      have ax6_W2 := (ab_W2.cell axL_W1).trans ax6_W1
      have ax7_W2 := (ab_W2.cell axL_W1).trans ax7_W1
      have axF_W2 : ∀ o, W2.frozen? ⟨w.heap.size, o, none⟩ = false := fun o => (ab_W2.frozen axL_W1).trans (axF_W1 o)
      have axL_W2 : w.heap.size < W2.heap.size := Nat.lt_of_lt_of_le axL_W1 ab_W2.size
      have acc_W2 := hidP (acc_W1.out.trans (ab_W2.mono acc_W1.out.size))
      have sz_W2 : Hid (W1.heap.size ≤ W2.heap.size) := hidP ab_W2.size
      clear ab_W2 ax0_W1 ax1_W1 ax2_W1 ax3_W1 ax4_W1 ax5_W1 ax6_W1 ax7_W1 axF_W1 axL_W1 acc_W1
      simp only [as_W1.out] at bx0_W2 bx1_W2 bx2_W2 bx3_W2 bx4_W2 bx5_W2 bx6_W2 bx7_W2 bxF_W2 bxL_W2
      refine (HP.out _ acc_W2.out).mono ?_
      rintro e u0 ⟨rfl, hb0⟩
      have ax0_u0 := (hb0.cell axL_W2).trans ax0_W2
      have ax1_u0 := (hb0.cell axL_W2).trans ax1_W2
      have ax2_u0 := (hb0.cell axL_W2).trans ax2_W2
      have ax3_u0 := (hb0.cell axL_W2).trans ax3_W2
      have ax4_u0 := (hb0.cell axL_W2).trans ax4_W2
      have ax5_u0 := (hb0.cell axL_W2).trans ax5_W2
      have ax6_u0 := (hb0.cell axL_W2).trans ax6_W2
      have ax7_u0 := (hb0.cell axL_W2).trans ax7_W2
      have axF_u0 : ∀ o, u0.frozen? ⟨w.heap.size, o, none⟩ = false := fun o => (hb0.frozen axL_W2).trans (axF_W2 o)
      have axL_u0 : w.heap.size < u0.heap.size := Nat.lt_of_lt_of_le axL_W2 hb0.size
      have bx0_u0 := (hb0.cell bxL_W2).trans bx0_W2
      have bx1_u0 := (hb0.cell bxL_W2).trans bx1_W2
      have bx2_u0 := (hb0.cell bxL_W2).trans bx2_W2
      have bx3_u0 := (hb0.cell bxL_W2).trans bx3_W2
      have bx4_u0 := (hb0.cell bxL_W2).trans bx4_W2
      have bx5_u0 := (hb0.cell bxL_W2).trans bx5_W2
      have bx6_u0 := (hb0.cell bxL_W2).trans bx6_W2
      have bx7_u0 := (hb0.cell bxL_W2).trans bx7_W2
      have bxF_u0 : ∀ o, u0.frozen? ⟨(w.heap.size + 1), o, none⟩ = false := fun o => (hb0.frozen bxL_W2).trans (bxF_W2 o)
      have bxL_u0 : (w.heap.size + 1) < u0.heap.size := Nat.lt_of_lt_of_le bxL_W2 hb0.size
      have acc_u0 := hidP (acc_W2.out.trans (hb0.mono acc_W2.out.size))
      have sz_u0 : Hid (W2.heap.size ≤ u0.heap.size) := hidP hb0.size
      clear hb0 ax0_W2 ax1_W2 ax2_W2 ax3_W2 ax4_W2 ax5_W2 ax6_W2 ax7_W2 axF_W2 axL_W2 bx0_W2 bx1_W2 bx2_W2 bx3_W2 bx4_W2 bx5_W2 bx6_W2 bx7_W2 bxF_W2 bxL_W2 acc_W2
      go_wp2_with fail
      refine (HB.out _ acc_u0.out).mono ?_
      rintro e u1 ⟨rfl, hb1⟩
      have ax0_u1 := (hb1.cell axL_u0).trans ax0_u0
      have ax1_u1 := (hb1.cell axL_u0).trans ax1_u0
      have ax2_u1 := (hb1.cell axL_u0).trans ax2_u0
      have ax3_u1 := (hb1.cell axL_u0).trans ax3_u0
      have ax4_u1 := (hb1.cell axL_u0).trans ax4_u0
      have ax5_u1 := (hb1.cell axL_u0).trans ax5_u0
      have ax6_u1 := (hb1.cell axL_u0).trans ax6_u0
      have ax7_u1 := (hb1.cell axL_u0).trans ax7_u0
      have axF_u1 : ∀ o, u1.frozen? ⟨w.heap.size, o, none⟩ = false := fun o => (hb1.frozen axL_u0).trans (axF_u0 o)
      have axL_u1 : w.heap.size < u1.heap.size := Nat.lt_of_lt_of_le axL_u0 hb1.size
      have bx0_u1 := (hb1.cell bxL_u0).trans bx0_u0
      have bx1_u1 := (hb1.cell bxL_u0).trans bx1_u0
      have bx2_u1 := (hb1.cell bxL_u0).trans bx2_u0
      have bx3_u1 := (hb1.cell bxL_u0).trans bx3_u0
      have bx4_u1 := (hb1.cell bxL_u0).trans bx4_u0
      have bx5_u1 := (hb1.cell bxL_u0).trans bx5_u0
      have bx6_u1 := (hb1.cell bxL_u0).trans bx6_u0
      have bx7_u1 := (hb1.cell bxL_u0).trans bx7_u0
      have bxF_u1 : ∀ o, u1.frozen? ⟨(w.heap.size + 1), o, none⟩ = false := fun o => (hb1.frozen bxL_u0).trans (bxF_u0 o)
      have bxL_u1 : (w.heap.size + 1) < u1.heap.size := Nat.lt_of_lt_of_le bxL_u0 hb1.size
      have acc_u1 := hidP (acc_u0.out.trans (hb1.mono acc_u0.out.size))
      have sz_u1 : Hid (u0.heap.size ≤ u1.heap.size) := hidP hb1.size
      clear hb1 ax0_u0 ax1_u0 ax2_u0 ax3_u0 ax4_u0 ax5_u0 ax6_u0 ax7_u0 axF_u0 axL_u0 bx0_u0 bx1_u0 bx2_u0 bx3_u0 bx4_u0 bx5_u0 bx6_u0 bx7_u0 bxF_u0 bxL_u0 acc_u0
      go_wp2_with fail
      go_ret
      exact ⟨rfl, acc_u1.out⟩
    · cases r3
      · go_enter Try.func7, Try.ntmps7
        go_wp2_with fail
        obtain ⟨ax0_W1, ax1_W1, ax2_W1, ax3_W1, ax4_W1, ax5_W1, ax6_W1, ax7_W1⟩ := bx8 w 47 (.slice ap np cp) (.slice ab nb cb) (.slice al nl cl) (.int .i64 T) (.int .i64 N) (.slice aS ns cs) (.int .i64 X) (.int .i64 C)
        have axF_W1 : ∀ o, (w.alloc (.cells #[.slice ap np cp, .slice ab nb cb, .slice al nl cl, .int .i64 T, .int .i64 N, .slice aS ns cs, .int .i64 X, .int .i64 C] 47)).frozen? ⟨w.heap.size, o, none⟩ = false := fun o => by simp [go_sem]
        have axL_W1 : w.heap.size < (w.alloc (.cells #[.slice ap np cp, .slice ab nb cb, .slice al nl cl, .int .i64 T, .int .i64 N, .slice aS ns cs, .int .i64 X, .int .i64 C] 47)).heap.size := by simp
        have ab_W1 := alloc_below w (.cells #[.slice ap np cp, .slice ab nb cb, .slice al nl cl, .int .i64 T, .int .i64 N, .slice aS ns cs, .int .i64 X, .int .i64 C] 47)
        have as_W1 : Hid ((w.alloc (.cells #[.slice ap np cp, .slice ab nb cb, .slice al nl cl, .int .i64 T, .int .i64 N, .slice aS ns cs, .int .i64 X, .int .i64 C] 47)).heap.size = w.heap.size + 1) := hidP (by simp)
        generalize w.alloc (.cells #[.slice ap np cp, .slice ab nb cb, .slice al nl cl, .int .i64 T, .int .i64 N, .slice aS ns cs, .int .i64 X, .int .i64 C] 47) = W1 at *
        have acc_W1 := hidP (ab_W1)
        have sz_W1 : Hid (w.heap.size ≤ W1.heap.size) := hidP ab_W1.size
        clear ab_W1 
        obtain ⟨bx0_W2, bx1_W2, bx2_W2, bx3_W2, bx4_W2, bx5_W2, bx6_W2, bx7_W2⟩ := bx8 W1 47 (.slice ap' np' cp') (.slice ab' nb' cb') (.slice al' nl' cl') (.int .i64 T') (.int .i64 N') (.slice aS' ns' cs') (.int .i64 X') (.int .i64 C')
        have bxF_W2 : ∀ o, (W1.alloc (.cells #[.slice ap' np' cp', .slice ab' nb' cb', .slice al' nl' cl', .int .i64 T', .int .i64 N', .slice aS' ns' cs', .int .i64 X', .int .i64 C'] 47)).frozen? ⟨W1.heap.size, o, none⟩ = false := fun o => by simp [go_sem]
        have bxL_W2 : W1.heap.size < (W1.alloc (.cells #[.slice ap' np' cp', .slice ab' nb' cb', .slice al' nl' cl', .int .i64 T', .int .i64 N', .slice aS' ns' cs', .int .i64 X', .int .i64 C'] 47)).heap.size := by simp
        have ab_W2 := alloc_below W1 (.cells #[.slice ap' np' cp', .slice ab' nb' cb', .slice al' nl' cl', .int .i64 T', .int .i64 N', .slice aS' ns' cs', .int .i64 X', .int .i64 C'] 47)
        have as_W2 : Hid ((W1.alloc (.cells #[.slice ap' np' cp', .slice ab' nb' cb', .slice al' nl' cl', .int .i64 T', .int .i64 N', .slice aS' ns' cs', .int .i64 X', .int .i64 C'] 47)).heap.size = W1.heap.size + 1) := hidP (by simp)
        generalize W1.alloc (.cells #[.slice ap' np' cp', .slice ab' nb' cb', .slice al' nl' cl', .int .i64 T', .int .i64 N', .slice aS' ns' cs', .int .i64 X', .int .i64 C'] 47) = W2 at *
        have ax0_W2 := (ab_W2.cell axL_W1).trans ax0_W1
        have ax1_W2 := (ab_W2.cell axL_W1).trans ax1_W1
        have ax2_W2 := (ab_W2.cell axL_W1).trans ax2_W1
        have ax3_W2 := (ab_W2.cell axL_W1).trans ax3_W1
        have ax4_W2 := (ab_W2.cell axL_W1).trans ax4_W1
        have ax5_W2 := (ab_W2.cell axL_W1).trans ax5_W1
        have ax6_W2 := (ab_W2.cell axL_W1).trans ax6_W1
        have ax7_W2 := (ab_W2.cell axL_W1).trans ax7_W1
        have axF_W2 : ∀ o, W2.frozen? ⟨w.heap.size, o, none⟩ = false := fun o => (ab_W2.frozen axL_W1).trans (axF_W1 o)
        have axL_W2 : w.heap.size < W2.heap.size := Nat.lt_of_lt_of_le axL_W1 ab_W2.size
        have acc_W2 := hidP (acc_W1.out.trans (ab_W2.mono acc_W1.out.size))
        have sz_W2 : Hid (W1.heap.size ≤ W2.heap.size) := hidP ab_W2.size
        clear ab_W2 ax0_W1 ax1_W1 ax2_W1 ax3_W1 ax4_W1 ax5_W1 ax6_W1 ax7_W1 axF_W1 axL_W1 acc_W1
        simp only [as_W1.out] at bx0_W2 bx1_W2 bx2_W2 bx3_W2 bx4_W2 bx5_W2 bx6_W2 bx7_W2 bxF_W2 bxL_W2
        refine (HP.out _ acc_W2.out).mono ?_
        rintro e u0 ⟨rfl, hb0⟩
        have ax0_u0 := (hb0.cell axL_W2).trans ax0_W2
        have ax1_u0 := (hb0.cell axL_W2).trans ax1_W2
        have ax2_u0 := (hb0.cell axL_W2).trans ax2_W2
        have ax3_u0 := (hb0.cell axL_W2).trans ax3_W2
        have ax4_u0 := (hb0.cell axL_W2).trans ax4_W2
        have ax5_u0 := (hb0.cell axL_W2).trans ax5_W2
        have ax6_u0 := (hb0.cell axL_W2).trans ax6_W2
        have ax7_u0 := (hb0.cell axL_W2).trans ax7_W2
        have axF_u0 : ∀ o, u0.frozen? ⟨w.heap.size, o, none⟩ = false := fun o => (hb0.frozen axL_W2).trans (axF_W2 o)
        have axL_u0 : w.heap.size < u0.heap.size := Nat.lt_of_lt_of_le axL_W2 hb0.size
        have bx0_u0 := (hb0.cell bxL_W2).trans bx0_W2
        have bx1_u0 := (hb0.cell bxL_W2).trans bx1_W2
        have bx2_u0 := (hb0.cell bxL_W2).trans bx2_W2
        have bx3_u0 := (hb0.cell bxL_W2).trans bx3_W2
        have bx4_u0 := (hb0.cell bxL_W2).trans bx4_W2
        have bx5_u0 := (hb0.cell bxL_W2).trans bx5_W2
        have bx6_u0 := (hb0.cell bxL_W2).trans bx6_W2
        have bx7_u0 := (hb0.cell bxL_W2).trans bx7_W2
        have bxF_u0 : ∀ o, u0.frozen? ⟨(w.heap.size + 1), o, none⟩ = false := fun o => (hb0.frozen bxL_W2).trans (bxF_W2 o)
        have bxL_u0 : (w.heap.size + 1) < u0.heap.size := Nat.lt_of_lt_of_le bxL_W2 hb0.size
        have acc_u0 := hidP (acc_W2.out.trans (hb0.mono acc_W2.out.size))
        have sz_u0 : Hid (W2.heap.size ≤ u0.heap.size) := hidP hb0.size
        clear hb0 ax0_W2 ax1_W2 ax2_W2 ax3_W2 ax4_W2 ax5_W2 ax6_W2 ax7_W2 axF_W2 axL_W2 bx0_W2 bx1_W2 bx2_W2 bx3_W2 bx4_W2 bx5_W2 bx6_W2 bx7_W2 bxF_W2 bxL_W2 acc_W2
        go_wp2_with fail
        refine (HB.out _ acc_u0.out).mono ?_
        rintro e u1 ⟨rfl, hb1⟩
        have ax0_u1 := (hb1.cell axL_u0).trans ax0_u0
        have ax1_u1 := (hb1.cell axL_u0).trans ax1_u0
        have ax2_u1 := (hb1.cell axL_u0).trans ax2_u0
        have ax3_u1 := (hb1.cell axL_u0).trans ax3_u0
        have ax4_u1 := (hb1.cell axL_u0).trans ax4_u0
        have ax5_u1 := (hb1.cell axL_u0).trans ax5_u0
        have ax6_u1 := (hb1.cell axL_u0).trans ax6_u0
        have ax7_u1 := (hb1.cell axL_u0).trans ax7_u0
        have axF_u1 : ∀ o, u1.frozen? ⟨w.heap.size, o, none⟩ = false := fun o => (hb1.frozen axL_u0).trans (axF_u0 o)
        have axL_u1 : w.heap.size < u1.heap.size := Nat.lt_of_lt_of_le axL_u0 hb1.size
        have bx0_u1 := (hb1.cell bxL_u0).trans bx0_u0
        have bx1_u1 := (hb1.cell bxL_u0).trans bx1_u0
        have bx2_u1 := (hb1.cell bxL_u0).trans bx2_u0
        have bx3_u1 := (hb1.cell bxL_u0).trans bx3_u0
        have bx4_u1 := (hb1.cell bxL_u0).trans bx4_u0
        have bx5_u1 := (hb1.cell bxL_u0).trans bx5_u0
        have bx6_u1 := (hb1.cell bxL_u0).trans bx6_u0
        have bx7_u1 := (hb1.cell bxL_u0).trans bx7_u0
        have bxF_u1 : ∀ o, u1.frozen? ⟨(w.heap.size + 1), o, none⟩ = false := fun o => (hb1.frozen bxL_u0).trans (bxF_u0 o)
        have bxL_u1 : (w.heap.size + 1) < u1.heap.size := Nat.lt_of_lt_of_le bxL_u0 hb1.size
        have acc_u1 := hidP (acc_u0.out.trans (hb1.mono acc_u0.out.size))
        have sz_u1 : Hid (u0.heap.size ≤ u1.heap.size) := hidP hb1.size
        clear hb1 ax0_u0 ax1_u0 ax2_u0 ax3_u0 ax4_u0 ax5_u0 ax6_u0 ax7_u0 axF_u0 axL_u0 bx0_u0 bx1_u0 bx2_u0 bx3_u0 bx4_u0 bx5_u0 bx6_u0 bx7_u0 bxF_u0 bxL_u0 acc_u0
        go_wp2_with fail
        refine (HD.out _ acc_u1.out).mono ?_
        rintro e u2 ⟨rfl, hb2⟩
        have ax0_u2 := (hb2.cell axL_u1).trans ax0_u1
        have ax1_u2 := (hb2.cell axL_u1).trans ax1_u1
        have ax2_u2 := (hb2.cell axL_u1).trans ax2_u1
        have ax3_u2 := (hb2.cell axL_u1).trans ax3_u1
        have ax4_u2 := (hb2.cell axL_u1).trans ax4_u1
        have ax5_u2 := (hb2.cell axL_u1).trans ax5_u1
        have ax6_u2 := (hb2.cell axL_u1).trans ax6_u1
        have ax7_u2 := (hb2.cell axL_u1).trans ax7_u1
        have axF_u2 : ∀ o, u2.frozen? ⟨w.heap.size, o, none⟩ = false := fun o => (hb2.frozen axL_u1).trans (axF_u1 o)
        have axL_u2 : w.heap.size < u2.heap.size := Nat.lt_of_lt_of_le axL_u1 hb2.size
        have bx0_u2 := (hb2.cell bxL_u1).trans bx0_u1
        have bx1_u2 := (hb2.cell bxL_u1).trans bx1_u1
        have bx2_u2 := (hb2.cell bxL_u1).trans bx2_u1
        have bx3_u2 := (hb2.cell bxL_u1).trans bx3_u1
        have bx4_u2 := (hb2.cell bxL_u1).trans bx4_u1
        have bx5_u2 := (hb2.cell bxL_u1).trans bx5_u1
        have bx6_u2 := (hb2.cell bxL_u1).trans bx6_u1
        have bx7_u2 := (hb2.cell bxL_u1).trans bx7_u1
        have bxF_u2 : ∀ o, u2.frozen? ⟨(w.heap.size + 1), o, none⟩ = false := fun o => (hb2.frozen bxL_u1).trans (bxF_u1 o)
        have bxL_u2 : (w.heap.size + 1) < u2.heap.size := Nat.lt_of_lt_of_le bxL_u1 hb2.size
        have acc_u2 := hidP (acc_u1.out.trans (hb2.mono acc_u1.out.size))
        have sz_u2 : Hid (u1.heap.size ≤ u2.heap.size) := hidP hb2.size
        clear hb2 ax0_u1 ax1_u1 ax2_u1 ax3_u1 ax4_u1 ax5_u1 ax6_u1 ax7_u1 axF_u1 axL_u1 bx0_u1 bx1_u1 bx2_u1 bx3_u1 bx4_u1 bx5_u1 bx6_u1 bx7_u1 bxF_u1 bxL_u1 acc_u1
        go_wp2_with fail
        go_ret
        exact ⟨rfl, acc_u2.out⟩
      · cases hC : (C == C')
        · go_enter Try.func7, Try.ntmps7
          go_wp2_with fail
          obtain ⟨ax0_W1, ax1_W1, ax2_W1, ax3_W1, ax4_W1, ax5_W1, ax6_W1, ax7_W1⟩ := bx8 w 47 (.slice ap np cp) (.slice ab nb cb) (.slice al nl cl) (.int .i64 T) (.int .i64 N) (.slice aS ns cs) (.int .i64 X) (.int .i64 C)
          have axF_W1 : ∀ o, (w.alloc (.cells #[.slice ap np cp, .slice ab nb cb, .slice al nl cl, .int .i64 T, .int .i64 N, .slice aS ns cs, .int .i64 X, .int .i64 C] 47)).frozen? ⟨w.heap.size, o, none⟩ = false := fun o => by simp [go_sem]
          have axL_W1 : w.heap.size < (w.alloc (.cells #[.slice ap np cp, .slice ab nb cb, .slice al nl cl, .int .i64 T, .int .i64 N, .slice aS ns cs, .int .i64 X, .int .i64 C] 47)).heap.size := by simp
          have ab_W1 := alloc_below w (.cells #[.slice ap np cp, .slice ab nb cb, .slice al nl cl, .int .i64 T, .int .i64 N, .slice aS ns cs, .int .i64 X, .int .i64 C] 47)
          have as_W1 : Hid ((w.alloc (.cells #[.slice ap np cp, .slice ab nb cb, .slice al nl cl, .int .i64 T, .int .i64 N, .slice aS ns cs, .int .i64 X, .int .i64 C] 47)).heap.size = w.heap.size + 1) := hidP (by simp)
          generalize w.alloc (.cells #[.slice ap np cp, .slice ab nb cb, .slice al nl cl, .int .i64 T, .int .i64 N, .slice aS ns cs, .int .i64 X, .int .i64 C] 47) = W1 at *
          have acc_W1 := hidP (ab_W1)
          have sz_W1 : Hid (w.heap.size ≤ W1.heap.size) := hidP ab_W1.size
          clear ab_W1 
          obtain ⟨bx0_W2, bx1_W2, bx2_W2, bx3_W2, bx4_W2, bx5_W2, bx6_W2, bx7_W2⟩ := bx8 W1 47 (.slice ap' np' cp') (.slice ab' nb' cb') (.slice al' nl' cl') (.int .i64 T') (.int .i64 N') (.slice aS' ns' cs') (.int .i64 X') (.int .i64 C')
          have bxF_W2 : ∀ o, (W1.alloc (.cells #[.slice ap' np' cp', .slice ab' nb' cb', .slice al' nl' cl', .int .i64 T', .int .i64 N', .slice aS' ns' cs', .int .i64 X', .int .i64 C'] 47)).frozen? ⟨W1.heap.size, o, none⟩ = false := fun o => by simp [go_sem]
          have bxL_W2 : W1.heap.size < (W1.alloc (.cells #[.slice ap' np' cp', .slice ab' nb' cb', .slice al' nl' cl', .int .i64 T', .int .i64 N', .slice aS' ns' cs', .int .i64 X', .int .i64 C'] 47)).heap.size := by simp
          have ab_W2 := alloc_below W1 (.cells #[.slice ap' np' cp', .slice ab' nb' cb', .slice al' nl' cl', .int .i64 T', .int .i64 N', .slice aS' ns' cs', .int .i64 X', .int .i64 C'] 47)
          have as_W2 : Hid ((W1.alloc (.cells #[.slice ap' np' cp', .slice ab' nb' cb', .slice al' nl' cl', .int .i64 T', .int .i64 N', .slice aS' ns' cs', .int .i64 X', .int .i64 C'] 47)).heap.size = W1.heap.size + 1) := hidP (by simp)
          generalize W1.alloc (.cells #[.slice ap' np' cp', .slice ab' nb' cb', .slice al' nl' cl', .int .i64 T', .int .i64 N', .slice aS' ns' cs', .int .i64 X', .int .i64 C'] 47) = W2 at *
          have ax0_W2 := (ab_W2.cell axL_W1).trans ax0_W1
          have ax1_W2 := (ab_W2.cell axL_W1).trans ax1_W1
          have ax2_W2 := (ab_W2.cell axL_W1).trans ax2_W1
          have ax3_W2 := (ab_W2.cell axL_W1).trans ax3_W1
          have ax4_W2 := (ab_W2.cell axL_W1).trans ax4_W1
          have ax5_W2 := (ab_W2.cell axL_W1).trans ax5_W1
          have ax6_W2 := (ab_W2.cell axL_W1).trans ax6_W1
          have ax7_W2 := (ab_W2.cell axL_W1).trans ax7_W1
          have axF_W2 : ∀ o, W2.frozen? ⟨w.heap.size, o, none⟩ = false := fun o => (ab_W2.frozen axL_W1).trans (axF_W1 o)
          have axL_W2 : w.heap.size < W2.heap.size := Nat.lt_of_lt_of_le axL_W1 ab_W2.size
          have acc_W2 := hidP (acc_W1.out.trans (ab_W2.mono acc_W1.out.size))
          have sz_W2 : Hid (W1.heap.size ≤ W2.heap.size) := hidP ab_W2.size
          clear ab_W2 ax0_W1 ax1_W1 ax2_W1 ax3_W1 ax4_W1 ax5_W1 ax6_W1 ax7_W1 axF_W1 axL_W1 acc_W1
          simp only [as_W1.out] at bx0_W2 bx1_W2 bx2_W2 bx3_W2 bx4_W2 bx5_W2 bx6_W2 bx7_W2 bxF_W2 bxL_W2
          refine (HP.out _ acc_W2.out).mono ?_
          rintro e u0 ⟨rfl, hb0⟩
          have ax0_u0 := (hb0.cell axL_W2).trans ax0_W2
          have ax1_u0 := (hb0.cell axL_W2).trans ax1_W2
          have ax2_u0 := (hb0.cell axL_W2).trans ax2_W2
          have ax3_u0 := (hb0.cell axL_W2).trans ax3_W2
          have ax4_u0 := (hb0.cell axL_W2).trans ax4_W2
          have ax5_u0 := (hb0.cell axL_W2).trans ax5_W2
          have ax6_u0 := (hb0.cell axL_W2).trans ax6_W2
          have ax7_u0 := (hb0.cell axL_W2).trans ax7_W2
          have axF_u0 : ∀ o, u0.frozen? ⟨w.heap.size, o, none⟩ = false := fun o => (hb0.frozen axL_W2).trans (axF_W2 o)
          have axL_u0 : w.heap.size < u0.heap.size := Nat.lt_of_lt_of_le axL_W2 hb0.size
          have bx0_u0 := (hb0.cell bxL_W2).trans bx0_W2
          have bx1_u0 := (hb0.cell bxL_W2).trans bx1_W2
          have bx2_u0 := (hb0.cell bxL_W2).trans bx2_W2
          have bx3_u0 := (hb0.cell bxL_W2).trans bx3_W2
          have bx4_u0 := (hb0.cell bxL_W2).trans bx4_W2
          have bx5_u0 := (hb0.cell bxL_W2).trans bx5_W2
          have bx6_u0 := (hb0.cell bxL_W2).trans bx6_W2
          have bx7_u0 := (hb0.cell bxL_W2).trans bx7_W2
          have bxF_u0 : ∀ o, u0.frozen? ⟨(w.heap.size + 1), o, none⟩ = false := fun o => (hb0.frozen bxL_W2).trans (bxF_W2 o)
          have bxL_u0 : (w.heap.size + 1) < u0.heap.size := Nat.lt_of_lt_of_le bxL_W2 hb0.size
          have acc_u0 := hidP (acc_W2.out.trans (hb0.mono acc_W2.out.size))
          have sz_u0 : Hid (W2.heap.size ≤ u0.heap.size) := hidP hb0.size
          clear hb0 ax0_W2 ax1_W2 ax2_W2 ax3_W2 ax4_W2 ax5_W2 ax6_W2 ax7_W2 axF_W2 axL_W2 bx0_W2 bx1_W2 bx2_W2 bx3_W2 bx4_W2 bx5_W2 bx6_W2 bx7_W2 bxF_W2 bxL_W2 acc_W2
          go_wp2_with fail
          refine (HB.out _ acc_u0.out).mono ?_
          rintro e u1 ⟨rfl, hb1⟩
          have ax0_u1 := (hb1.cell axL_u0).trans ax0_u0
          have ax1_u1 := (hb1.cell axL_u0).trans ax1_u0
          have ax2_u1 := (hb1.cell axL_u0).trans ax2_u0
          have ax3_u1 := (hb1.cell axL_u0).trans ax3_u0
          have ax4_u1 := (hb1.cell axL_u0).trans ax4_u0
          have ax5_u1 := (hb1.cell axL_u0).trans ax5_u0
          have ax6_u1 := (hb1.cell axL_u0).trans ax6_u0
          have ax7_u1 := (hb1.cell axL_u0).trans ax7_u0
          have axF_u1 : ∀ o, u1.frozen? ⟨w.heap.size, o, none⟩ = false := fun o => (hb1.frozen axL_u0).trans (axF_u0 o)
          have axL_u1 : w.heap.size < u1.heap.size := Nat.lt_of_lt_of_le axL_u0 hb1.size
          have bx0_u1 := (hb1.cell bxL_u0).trans bx0_u0
          have bx1_u1 := (hb1.cell bxL_u0).trans bx1_u0
          have bx2_u1 := (hb1.cell bxL_u0).trans bx2_u0
          have bx3_u1 := (hb1.cell bxL_u0).trans bx3_u0
          have bx4_u1 := (hb1.cell bxL_u0).trans bx4_u0
          have bx5_u1 := (hb1.cell bxL_u0).trans bx5_u0
          have bx6_u1 := (hb1.cell bxL_u0).trans bx6_u0
          have bx7_u1 := (hb1.cell bxL_u0).trans bx7_u0
          have bxF_u1 : ∀ o, u1.frozen? ⟨(w.heap.size + 1), o, none⟩ = false := fun o => (hb1.frozen bxL_u0).trans (bxF_u0 o)
          have bxL_u1 : (w.heap.size + 1) < u1.heap.size := Nat.lt_of_lt_of_le bxL_u0 hb1.size
          have acc_u1 := hidP (acc_u0.out.trans (hb1.mono acc_u0.out.size))
          have sz_u1 : Hid (u0.heap.size ≤ u1.heap.size) := hidP hb1.size
          clear hb1 ax0_u0 ax1_u0 ax2_u0 ax3_u0 ax4_u0 ax5_u0 ax6_u0 ax7_u0 axF_u0 axL_u0 bx0_u0 bx1_u0 bx2_u0 bx3_u0 bx4_u0 bx5_u0 bx6_u0 bx7_u0 bxF_u0 bxL_u0 acc_u0
          go_wp2_with fail
          refine (HD.out _ acc_u1.out).mono ?_
          rintro e u2 ⟨rfl, hb2⟩
          have ax0_u2 := (hb2.cell axL_u1).trans ax0_u1
          have ax1_u2 := (hb2.cell axL_u1).trans ax1_u1
          have ax2_u2 := (hb2.cell axL_u1).trans ax2_u1
          have ax3_u2 := (hb2.cell axL_u1).trans ax3_u1
          have ax4_u2 := (hb2.cell axL_u1).trans ax4_u1
          have ax5_u2 := (hb2.cell axL_u1).trans ax5_u1
          have ax6_u2 := (hb2.cell axL_u1).trans ax6_u1
          have ax7_u2 := (hb2.cell axL_u1).trans ax7_u1
          have axF_u2 : ∀ o, u2.frozen? ⟨w.heap.size, o, none⟩ = false := fun o => (hb2.frozen axL_u1).trans (axF_u1 o)
          have axL_u2 : w.heap.size < u2.heap.size := Nat.lt_of_lt_of_le axL_u1 hb2.size
          have bx0_u2 := (hb2.cell bxL_u1).trans bx0_u1
          have bx1_u2 := (hb2.cell bxL_u1).trans bx1_u1
          have bx2_u2 := (hb2.cell bxL_u1).trans bx2_u1
          have bx3_u2 := (hb2.cell bxL_u1).trans bx3_u1
          have bx4_u2 := (hb2.cell bxL_u1).trans bx4_u1
          have bx5_u2 := (hb2.cell bxL_u1).trans bx5_u1
          have bx6_u2 := (hb2.cell bxL_u1).trans bx6_u1
          have bx7_u2 := (hb2.cell bxL_u1).trans bx7_u1
          have bxF_u2 : ∀ o, u2.frozen? ⟨(w.heap.size + 1), o, none⟩ = false := fun o => (hb2.frozen bxL_u1).trans (bxF_u1 o)
          have bxL_u2 : (w.heap.size + 1) < u2.heap.size := Nat.lt_of_lt_of_le bxL_u1 hb2.size
          have acc_u2 := hidP (acc_u1.out.trans (hb2.mono acc_u1.out.size))
          have sz_u2 : Hid (u1.heap.size ≤ u2.heap.size) := hidP hb2.size
          clear hb2 ax0_u1 ax1_u1 ax2_u1 ax3_u1 ax4_u1 ax5_u1 ax6_u1 ax7_u1 axF_u1 axL_u1 bx0_u1 bx1_u1 bx2_u1 bx3_u1 bx4_u1 bx5_u1 bx6_u1 bx7_u1 bxF_u1 bxL_u1 acc_u1
          go_wp2_with fail
          go_ret
          exact ⟨rfl, acc_u2.out⟩
        · go_enter Try.func7, Try.ntmps7
          go_wp2_with fail
          obtain ⟨ax0_W1, ax1_W1, ax2_W1, ax3_W1, ax4_W1, ax5_W1, ax6_W1, ax7_W1⟩ := bx8 w 47 (.slice ap np cp) (.slice ab nb cb) (.slice al nl cl) (.int .i64 T) (.int .i64 N) (.slice aS ns cs) (.int .i64 X) (.int .i64 C)
          have axF_W1 : ∀ o, (w.alloc (.cells #[.slice ap np cp, .slice ab nb cb, .slice al nl cl, .int .i64 T, .int .i64 N, .slice aS ns cs, .int .i64 X, .int .i64 C] 47)).frozen? ⟨w.heap.size, o, none⟩ = false := fun o => by simp [go_sem]
          have axL_W1 : w.heap.size < (w.alloc (.cells #[.slice ap np cp, .slice ab nb cb, .slice al nl cl, .int .i64 T, .int .i64 N, .slice aS ns cs, .int .i64 X, .int .i64 C] 47)).heap.size := by simp
          have ab_W1 := alloc_below w (.cells #[.slice ap np cp, .slice ab nb cb, .slice al nl cl, .int .i64 T, .int .i64 N, .slice aS ns cs, .int .i64 X, .int .i64 C] 47)
          have as_W1 : Hid ((w.alloc (.cells #[.slice ap np cp, .slice ab nb cb, .slice al nl cl, .int .i64 T, .int .i64 N, .slice aS ns cs, .int .i64 X, .int .i64 C] 47)).heap.size = w.heap.size + 1) := hidP (by simp)
          generalize w.alloc (.cells #[.slice ap np cp, .slice ab nb cb, .slice al nl cl, .int .i64 T, .int .i64 N, .slice aS ns cs, .int .i64 X, .int .i64 C] 47) = W1 at *
          have acc_W1 := hidP (ab_W1)
          have sz_W1 : Hid (w.heap.size ≤ W1.heap.size) := hidP ab_W1.size
          clear ab_W1 
          obtain ⟨bx0_W2, bx1_W2, bx2_W2, bx3_W2, bx4_W2, bx5_W2, bx6_W2, bx7_W2⟩ := bx8 W1 47 (.slice ap' np' cp') (.slice ab' nb' cb') (.slice al' nl' cl') (.int .i64 T') (.int .i64 N') (.slice aS' ns' cs') (.int .i64 X') (.int .i64 C')
          have bxF_W2 : ∀ o, (W1.alloc (.cells #[.slice ap' np' cp', .slice ab' nb' cb', .slice al' nl' cl', .int .i64 T', .int .i64 N', .slice aS' ns' cs', .int .i64 X', .int .i64 C'] 47)).frozen? ⟨W1.heap.size, o, none⟩ = false := fun o => by simp [go_sem]
          have bxL_W2 : W1.heap.size < (W1.alloc (.cells #[.slice ap' np' cp', .slice ab' nb' cb', .slice al' nl' cl', .int .i64 T', .int .i64 N', .slice aS' ns' cs', .int .i64 X', .int .i64 C'] 47)).heap.size := by simp
          have ab_W2 := alloc_below W1 (.cells #[.slice ap' np' cp', .slice ab' nb' cb', .slice al' nl' cl', .int .i64 T', .int .i64 N', .slice aS' ns' cs', .int .i64 X', .int .i64 C'] 47)
          have as_W2 : Hid ((W1.alloc (.cells #[.slice ap' np' cp', .slice ab' nb' cb', .slice al' nl' cl', .int .i64 T', .int .i64 N', .slice aS' ns' cs', .int .i64 X', .int .i64 C'] 47)).heap.size = W1.heap.size + 1) := hidP (by simp)
          generalize W1.alloc (.cells #[.slice ap' np' cp', .slice ab' nb' cb', .slice al' nl' cl', .int .i64 T', .int .i64 N', .slice aS' ns' cs', .int .i64 X', .int .i64 C'] 47) = W2 at *
          have ax0_W2 := (ab_W2.cell axL_W1).trans ax0_W1
          have ax1_W2 := (ab_W2.cell axL_W1).trans ax1_W1
          have ax2_W2 := (ab_W2.cell axL_W1).trans ax2_W1
          have ax3_W2 := (ab_W2.cell axL_W1).trans ax3_W1
          have ax4_W2 := (ab_W2.cell axL_W1).trans ax4_W1
          have ax5_W2 := (ab_W2.cell axL_W1).trans ax5_W1
          have ax6_W2 := (ab_W2.cell axL_W1).trans ax6_W1
          have ax7_W2 := (ab_W2.cell axL_W1).trans ax7_W1
          have axF_W2 : ∀ o, W2.frozen? ⟨w.heap.size, o, none⟩ = false := fun o => (ab_W2.frozen axL_W1).trans (axF_W1 o)
          have axL_W2 : w.heap.size < W2.heap.size := Nat.lt_of_lt_of_le axL_W1 ab_W2.size
          have acc_W2 := hidP (acc_W1.out.trans (ab_W2.mono acc_W1.out.size))
          have sz_W2 : Hid (W1.heap.size ≤ W2.heap.size) := hidP ab_W2.size
          clear ab_W2 ax0_W1 ax1_W1 ax2_W1 ax3_W1 ax4_W1 ax5_W1 ax6_W1 ax7_W1 axF_W1 axL_W1 acc_W1
          simp only [as_W1.out] at bx0_W2 bx1_W2 bx2_W2 bx3_W2 bx4_W2 bx5_W2 bx6_W2 bx7_W2 bxF_W2 bxL_W2
          refine (HP.out _ acc_W2.out).mono ?_
          rintro e u0 ⟨rfl, hb0⟩
          have ax0_u0 := (hb0.cell axL_W2).trans ax0_W2
          have ax1_u0 := (hb0.cell axL_W2).trans ax1_W2
          have ax2_u0 := (hb0.cell axL_W2).trans ax2_W2
          have ax3_u0 := (hb0.cell axL_W2).trans ax3_W2
          have ax4_u0 := (hb0.cell axL_W2).trans ax4_W2
          have ax5_u0 := (hb0.cell axL_W2).trans ax5_W2
          have ax6_u0 := (hb0.cell axL_W2).trans ax6_W2
          have ax7_u0 := (hb0.cell axL_W2).trans ax7_W2
          have axF_u0 : ∀ o, u0.frozen? ⟨w.heap.size, o, none⟩ = false := fun o => (hb0.frozen axL_W2).trans (axF_W2 o)
          have axL_u0 : w.heap.size < u0.heap.size := Nat.lt_of_lt_of_le axL_W2 hb0.size
          have bx0_u0 := (hb0.cell bxL_W2).trans bx0_W2
          have bx1_u0 := (hb0.cell bxL_W2).trans bx1_W2
          have bx2_u0 := (hb0.cell bxL_W2).trans bx2_W2
          have bx3_u0 := (hb0.cell bxL_W2).trans bx3_W2
          have bx4_u0 := (hb0.cell bxL_W2).trans bx4_W2
          have bx5_u0 := (hb0.cell bxL_W2).trans bx5_W2
          have bx6_u0 := (hb0.cell bxL_W2).trans bx6_W2
          have bx7_u0 := (hb0.cell bxL_W2).trans bx7_W2
          have bxF_u0 : ∀ o, u0.frozen? ⟨(w.heap.size + 1), o, none⟩ = false := fun o => (hb0.frozen bxL_W2).trans (bxF_W2 o)
          have bxL_u0 : (w.heap.size + 1) < u0.heap.size := Nat.lt_of_lt_of_le bxL_W2 hb0.size
          have acc_u0 := hidP (acc_W2.out.trans (hb0.mono acc_W2.out.size))
          have sz_u0 : Hid (W2.heap.size ≤ u0.heap.size) := hidP hb0.size
          clear hb0 ax0_W2 ax1_W2 ax2_W2 ax3_W2 ax4_W2 ax5_W2 ax6_W2 ax7_W2 axF_W2 axL_W2 bx0_W2 bx1_W2 bx2_W2 bx3_W2 bx4_W2 bx5_W2 bx6_W2 bx7_W2 bxF_W2 bxL_W2 acc_W2
          go_wp2_with fail
          refine (HB.out _ acc_u0.out).mono ?_
          rintro e u1 ⟨rfl, hb1⟩
          have ax0_u1 := (hb1.cell axL_u0).trans ax0_u0
          have ax1_u1 := (hb1.cell axL_u0).trans ax1_u0
          have ax2_u1 := (hb1.cell axL_u0).trans ax2_u0
          have ax3_u1 := (hb1.cell axL_u0).trans ax3_u0
          have ax4_u1 := (hb1.cell axL_u0).trans ax4_u0
          have ax5_u1 := (hb1.cell axL_u0).trans ax5_u0
          have ax6_u1 := (hb1.cell axL_u0).trans ax6_u0
          have ax7_u1 := (hb1.cell axL_u0).trans ax7_u0
          have axF_u1 : ∀ o, u1.frozen? ⟨w.heap.size, o, none⟩ = false := fun o => (hb1.frozen axL_u0).trans (axF_u0 o)
          have axL_u1 : w.heap.size < u1.heap.size := Nat.lt_of_lt_of_le axL_u0 hb1.size
          have bx0_u1 := (hb1.cell bxL_u0).trans bx0_u0
          have bx1_u1 := (hb1.cell bxL_u0).trans bx1_u0
          have bx2_u1 := (hb1.cell bxL_u0).trans bx2_u0
          have bx3_u1 := (hb1.cell bxL_u0).trans bx3_u0
          have bx4_u1 := (hb1.cell bxL_u0).trans bx4_u0
          have bx5_u1 := (hb1.cell bxL_u0).trans bx5_u0
          have bx6_u1 := (hb1.cell bxL_u0).trans bx6_u0
          have bx7_u1 := (hb1.cell bxL_u0).trans bx7_u0
          have bxF_u1 : ∀ o, u1.frozen? ⟨(w.heap.size + 1), o, none⟩ = false := fun o => (hb1.frozen bxL_u0).trans (bxF_u0 o)
          have bxL_u1 : (w.heap.size + 1) < u1.heap.size := Nat.lt_of_lt_of_le bxL_u0 hb1.size
          have acc_u1 := hidP (acc_u0.out.trans (hb1.mono acc_u0.out.size))
          have sz_u1 : Hid (u0.heap.size ≤ u1.heap.size) := hidP hb1.size
          clear hb1 ax0_u0 ax1_u0 ax2_u0 ax3_u0 ax4_u0 ax5_u0 ax6_u0 ax7_u0 axF_u0 axL_u0 bx0_u0 bx1_u0 bx2_u0 bx3_u0 bx4_u0 bx5_u0 bx6_u0 bx7_u0 bxF_u0 bxL_u0 acc_u0
          go_wp2_with fail
          refine (HD.out _ acc_u1.out).mono ?_
          rintro e u2 ⟨rfl, hb2⟩
          have ax0_u2 := (hb2.cell axL_u1).trans ax0_u1
          have ax1_u2 := (hb2.cell axL_u1).trans ax1_u1
          have ax2_u2 := (hb2.cell axL_u1).trans ax2_u1
          have ax3_u2 := (hb2.cell axL_u1).trans ax3_u1
          have ax4_u2 := (hb2.cell axL_u1).trans ax4_u1
          have ax5_u2 := (hb2.cell axL_u1).trans ax5_u1
          have ax6_u2 := (hb2.cell axL_u1).trans ax6_u1
          have ax7_u2 := (hb2.cell axL_u1).trans ax7_u1
          have axF_u2 : ∀ o, u2.frozen? ⟨w.heap.size, o, none⟩ = false := fun o => (hb2.frozen axL_u1).trans (axF_u1 o)
          have axL_u2 : w.heap.size < u2.heap.size := Nat.lt_of_lt_of_le axL_u1 hb2.size
          have bx0_u2 := (hb2.cell bxL_u1).trans bx0_u1
          have bx1_u2 := (hb2.cell bxL_u1).trans bx1_u1
          have bx2_u2 := (hb2.cell bxL_u1).trans bx2_u1
          have bx3_u2 := (hb2.cell bxL_u1).trans bx3_u1
          have bx4_u2 := (hb2.cell bxL_u1).trans bx4_u1
          have bx5_u2 := (hb2.cell bxL_u1).trans bx5_u1
          have bx6_u2 := (hb2.cell bxL_u1).trans bx6_u1
          have bx7_u2 := (hb2.cell bxL_u1).trans bx7_u1
          have bxF_u2 : ∀ o, u2.frozen? ⟨(w.heap.size + 1), o, none⟩ = false := fun o => (hb2.frozen bxL_u1).trans (bxF_u1 o)
          have bxL_u2 : (w.heap.size + 1) < u2.heap.size := Nat.lt_of_lt_of_le bxL_u1 hb2.size
          have acc_u2 := hidP (acc_u1.out.trans (hb2.mono acc_u1.out.size))
          have sz_u2 : Hid (u1.heap.size ≤ u2.heap.size) := hidP hb2.size
          clear hb2 ax0_u1 ax1_u1 ax2_u1 ax3_u1 ax4_u1 ax5_u1 ax6_u1 ax7_u1 axF_u1 axL_u1 bx0_u1 bx1_u1 bx2_u1 bx3_u1 bx4_u1 bx5_u1 bx6_u1 bx7_u1 bxF_u1 bxL_u1 acc_u1
          go_wp2_with fail
          go_ret
          exact ⟨rfl, acc_u2.out⟩
set_option maxRecDepth 10000 in
set_option maxHeartbeats 8000000 in
theorem sSame_any (ap : Option Addr) (np cp : Nat) (ab : Option Addr) (nb cb : Nat) (al : Option Addr) (nl cl : Nat) (T N : Int) (aS : Option Addr) (ns cs : Nat) (X C : Int) (ps : List Pl) (bs : List Bk) (ls : List Ls) (ss : List Ss) (ap' : Option Addr) (np' cp' : Nat) (ab' : Option Addr) (nb' cb' : Nat) (al' : Option Addr) (nl' cl' : Nat) (T' N' : Int) (aS' : Option Addr) (ns' cs' : Nat) (X' C' : Int) (ps' : List Pl) (bs' : List Bk) (ls' : List Ls) (ss' : List Ss) (w : World) (hnp : np = ps.length) (hnb : nb = bs.length) (hnl : nl = ls.length) (hns : ns = ss.length) (gnp : np' = ps'.length) (gnb : nb' = bs'.length) (gnl : nl' = ls'.length) (gns : ns' = ss'.length) (hP : RowG KPl w ap ps) (hK : RowG KBk w ab bs) (hL : RowG KLs w al ls) (hS : RowG KSs w aS ss) (gP : RowG KPl w ap' ps') (gK : RowG KBk w ab' bs') (gL : RowG KLs w al' ls') (gS : RowG KSs w aS' ss') (hlp : np ≤ 1048576) (hlb : nb ≤ 1048576) (hll : nl ≤ 1048576) (hls : ns ≤ 1048576) (glp : np' ≤ 1048576) (glb : nb' ≤ 1048576) (gll : nl' ≤ 1048576) (gls : ns' ≤ 1048576) :
    Calls Try.prog 5 #[.agg #[.slice ap np cp, .slice ab nb cb, .slice al nl cl, .int .i64 T, .int .i64 N, .slice aS ns cs, .int .i64 X, .int .i64 C], .agg #[.slice ap' np' cp', .slice ab' nb' cb', .slice al' nl' cl', .int .i64 T', .int .i64 N', .slice aS' ns' cs', .int .i64 X', .int .i64 C']] w fun e w' => e = .returned (.bool (sameB ps bs ls T N ss X C ps' bs' ls' T' N' ss' X' C')) ∧ Below w.heap.size w w' := by
  by_cases ep : np = np'
  rotate_left
  · have HF : Hid (sameB ps bs ls T N ss X C ps' bs' ls' T' N' ss' X' C' = false) := hidP (by unfold sameB; rw [eqlB_len (f := eqPlB) (xs := ps) (ys := ps') (by rw [← hnp, ← gnp]; exact ep)]; simp)
    have n1 : ¬ ((np : Int) = (np' : Int)) := by omega
    have n2 : ((np : Int) != (np' : Int)) = true := by simpa using n1
    clear hP hK hL hS gP gK gL gS hnp hnb hnl hns gnp gnb gnl gns
    generalize sameB ps bs ls T N ss X C ps' bs' ls' T' N' ss' X' C' = R at *
    go_enter Try.func5, Try.ntmps5
    go_wp2_with fail
    go_ret
    exact ⟨ret_b HF.out.symm, (alloc_below w _).trans ((alloc_below _ _).mono (by simp))⟩
  subst ep
  by_cases eb : nb = nb'
  rotate_left
  · have HF : Hid (sameB ps bs ls T N ss X C ps' bs' ls' T' N' ss' X' C' = false) := hidP (by unfold sameB; rw [eqlB_len (f := eqBkB) (xs := bs) (ys := bs') (by rw [← hnb, ← gnb]; exact eb)]; simp)
    have n1 : ¬ ((nb : Int) = (nb' : Int)) := by omega
    have n2 : ((nb : Int) != (nb' : Int)) = true := by simpa using n1
    clear hP hK hL hS gP gK gL gS hnp hnb hnl hns gnp gnb gnl gns
    generalize sameB ps bs ls T N ss X C ps' bs' ls' T' N' ss' X' C' = R at *
    go_enter Try.func5, Try.ntmps5
    go_wp2_with fail
    go_ret
    exact ⟨ret_b HF.out.symm, (alloc_below w _).trans ((alloc_below _ _).mono (by simp))⟩
  subst eb
  by_cases el : nl = nl'
  rotate_left
  · have HF : Hid (sameB ps bs ls T N ss X C ps' bs' ls' T' N' ss' X' C' = false) := hidP (by unfold sameB; rw [eqlB_len (f := eqLsB) (xs := ls) (ys := ls') (by rw [← hnl, ← gnl]; exact el)]; simp)
    have n1 : ¬ ((nl : Int) = (nl' : Int)) := by omega
    have n2 : ((nl : Int) != (nl' : Int)) = true := by simpa using n1
    clear hP hK hL hS gP gK gL gS hnp hnb hnl hns gnp gnb gnl gns
    generalize sameB ps bs ls T N ss X C ps' bs' ls' T' N' ss' X' C' = R at *
    go_enter Try.func5, Try.ntmps5
    go_wp2_with fail
    go_ret
    exact ⟨ret_b HF.out.symm, (alloc_below w _).trans ((alloc_below _ _).mono (by simp))⟩
  subst el
  by_cases es : ns = ns'
  rotate_left
  · have HF : Hid (sameB ps bs ls T N ss X C ps' bs' ls' T' N' ss' X' C' = false) := hidP (by unfold sameB; rw [eqlB_len (f := eqSsB) (xs := ss) (ys := ss') (by rw [← hns, ← gns]; exact es)]; simp)
    have n1 : ¬ ((ns : Int) = (ns' : Int)) := by omega
    have n2 : ((ns : Int) != (ns' : Int)) = true := by simpa using n1
    clear hP hK hL hS gP gK gL gS hnp hnb hnl hns gnp gnb gnl gns
    generalize sameB ps bs ls T N ss X C ps' bs' ls' T' N' ss' X' C' = R at *
    go_enter Try.func5, Try.ntmps5
    go_wp2_with fail
    go_ret
    exact ⟨ret_b HF.out.symm, (alloc_below w _).trans ((alloc_below _ _).mono (by simp))⟩
  subst es
  have HNp := hidP hnp
  have HMp := hidP gnp
  have HNb := hidP hnb
  have HMb := hidP gnb
  have HNl := hidP hnl
  have HMl := hidP gnl
  have HNs := hidP hns
  have HMs := hidP gns
  have HPs := hidP hP
  have HKs := hidP hK
  have HLs := hidP hL
  have HSs := hidP hS
  have GPs := hidP gP
  have GKs := hidP gK
  have GLs := hidP gL
  have GSs := hidP gS
  clear hP hK hL hS gP gK gL gS hnp hnb hnl hns gnp gnb gnl gns
  go_enter Try.func5, Try.ntmps5
  go_wp2_with fail
  obtain ⟨ax0_W1, ax1_W1, ax2_W1, ax3_W1, ax4_W1, ax5_W1, ax6_W1, ax7_W1⟩ := bx8 w 47 (.slice ap np cp) (.slice ab nb cb) (.slice al nl cl) (.int .i64 T) (.int .i64 N) (.slice aS ns cs) (.int .i64 X) (.int .i64 C)
  have axF_W1 : ∀ o, (w.alloc (.cells #[.slice ap np cp, .slice ab nb cb, .slice al nl cl, .int .i64 T, .int .i64 N, .slice aS ns cs, .int .i64 X, .int .i64 C] 47)).frozen? ⟨w.heap.size, o, none⟩ = false := fun o => by simp [go_sem]
  have axL_W1 : w.heap.size < (w.alloc (.cells #[.slice ap np cp, .slice ab nb cb, .slice al nl cl, .int .i64 T, .int .i64 N, .slice aS ns cs, .int .i64 X, .int .i64 C] 47)).heap.size := by simp
  have ab_W1 := alloc_below w (.cells #[.slice ap np cp, .slice ab nb cb, .slice al nl cl, .int .i64 T, .int .i64 N, .slice aS ns cs, .int .i64 X, .int .i64 C] 47)
  have as_W1 : Hid ((w.alloc (.cells #[.slice ap np cp, .slice ab nb cb, .slice al nl cl, .int .i64 T, .int .i64 N, .slice aS ns cs, .int .i64 X, .int .i64 C] 47)).heap.size = w.heap.size + 1) := hidP (by simp)
  generalize w.alloc (.cells #[.slice ap np cp, .slice ab nb cb, .slice al nl cl, .int .i64 T, .int .i64 N, .slice aS ns cs, .int .i64 X, .int .i64 C] 47) = W1 at *
  have acc_W1 := hidP (ab_W1)
  have sz_W1 : Hid (w.heap.size ≤ W1.heap.size) := hidP ab_W1.size
  clear ab_W1 
  obtain ⟨bx0_W2, bx1_W2, bx2_W2, bx3_W2, bx4_W2, bx5_W2, bx6_W2, bx7_W2⟩ := bx8 W1 47 (.slice ap' np cp') (.slice ab' nb cb') (.slice al' nl cl') (.int .i64 T') (.int .i64 N') (.slice aS' ns cs') (.int .i64 X') (.int .i64 C')
  have bxF_W2 : ∀ o, (W1.alloc (.cells #[.slice ap' np cp', .slice ab' nb cb', .slice al' nl cl', .int .i64 T', .int .i64 N', .slice aS' ns cs', .int .i64 X', .int .i64 C'] 47)).frozen? ⟨W1.heap.size, o, none⟩ = false := fun o => by simp [go_sem]
  have bxL_W2 : W1.heap.size < (W1.alloc (.cells #[.slice ap' np cp', .slice ab' nb cb', .slice al' nl cl', .int .i64 T', .int .i64 N', .slice aS' ns cs', .int .i64 X', .int .i64 C'] 47)).heap.size := by simp
  have ab_W2 := alloc_below W1 (.cells #[.slice ap' np cp', .slice ab' nb cb', .slice al' nl cl', .int .i64 T', .int .i64 N', .slice aS' ns cs', .int .i64 X', .int .i64 C'] 47)
  have as_W2 : Hid ((W1.alloc (.cells #[.slice ap' np cp', .slice ab' nb cb', .slice al' nl cl', .int .i64 T', .int .i64 N', .slice aS' ns cs', .int .i64 X', .int .i64 C'] 47)).heap.size = W1.heap.size + 1) := hidP (by simp)
  generalize W1.alloc (.cells #[.slice ap' np cp', .slice ab' nb cb', .slice al' nl cl', .int .i64 T', .int .i64 N', .slice aS' ns cs', .int .i64 X', .int .i64 C'] 47) = W2 at *
  have ax0_W2 := (ab_W2.cell axL_W1).trans ax0_W1
  have ax1_W2 := (ab_W2.cell axL_W1).trans ax1_W1
  have ax2_W2 := (ab_W2.cell axL_W1).trans ax2_W1
  have ax3_W2 := (ab_W2.cell axL_W1).trans ax3_W1
  have ax4_W2 := (ab_W2.cell axL_W1).trans ax4_W1
  have ax5_W2 := (ab_W2.cell axL_W1).trans ax5_W1
  have ax6_W2 := (ab_W2.cell axL_W1).trans ax6_W1
  have ax7_W2 := (ab_W2.cell axL_W1).trans ax7_W1
  have axF_W2 : ∀ o, W2.frozen? ⟨w.heap.size, o, none⟩ = false := fun o => (ab_W2.frozen axL_W1).trans (axF_W1 o)
  have axL_W2 : w.heap.size < W2.heap.size := Nat.lt_of_lt_of_le axL_W1 ab_W2.size
  have acc_W2 := hidP (acc_W1.out.trans (ab_W2.mono acc_W1.out.size))
  have sz_W2 : Hid (W1.heap.size ≤ W2.heap.size) := hidP ab_W2.size
  clear ab_W2 ax0_W1 ax1_W1 ax2_W1 ax3_W1 ax4_W1 ax5_W1 ax6_W1 ax7_W1 axF_W1 axL_W1 acc_W1
  simp only [as_W1.out] at bx0_W2 bx1_W2 bx2_W2 bx3_W2 bx4_W2 bx5_W2 bx6_W2 bx7_W2 bxF_W2 bxL_W2
  have RP := hidP (HPs.out.later acc_W2.out)
  have QP := hidP (GPs.out.later acc_W2.out)
  have RK := hidP (HKs.out.later acc_W2.out)
  have QK := hidP (GKs.out.later acc_W2.out)
  have RL := hidP (HLs.out.later acc_W2.out)
  have QL := hidP (GLs.out.later acc_W2.out)
  have RS := hidP (HSs.out.later acc_W2.out)
  have QS := hidP (GSs.out.later acc_W2.out)
  clear HPs HKs HLs HSs GPs GKs GLs GSs
  have AC := acc_W2
  have ax0 := ax0_W2
  have ax1 := ax1_W2
  have ax2 := ax2_W2
  have ax3 := ax3_W2
  have ax4 := ax4_W2
  have ax5 := ax5_W2
  have ax6 := ax6_W2
  have ax7 := ax7_W2
  have axL := axL_W2
  have bx0 := bx0_W2
  have bx1 := bx1_W2
  have bx2 := bx2_W2
  have bx3 := bx3_W2
  have bx4 := bx4_W2
  have bx5 := bx5_W2
  have bx6 := bx6_W2
  have bx7 := bx7_W2
  have bxL := bxL_W2
  clear acc_W2 ax0_W2 ax1_W2 ax2_W2 ax3_W2 ax4_W2 ax5_W2 ax6_W2 ax7_W2 bx0_W2 bx1_W2 bx2_W2 bx3_W2 bx4_W2 bx5_W2 bx6_W2 bx7_W2 axL_W2 bxL_W2 axF_W2 bxF_W2
  go_loopw [5] (fun tt wr => ∃ k : Nat, k ≤ np ∧ tt = .int .i64 k ∧ eqlB eqPlB ps ps' = eqlB eqPlB (ps.drop k) (ps'.drop k) ∧ Below W2.heap.size W2 wr) (fun tt _ => np - (intOf tt).toNat)
  case atStart => exact ⟨0, Nat.zero_le _, rfl, rfl, Below.refl _ _⟩
  case round =>
    obtain ⟨k, hk, rfl, hpo, hbel⟩ := hrel
    have HBel := hidP hbel
    have XL : w.heap.size < wr.heap.size := Nat.lt_of_lt_of_le axL hbel.size
    have YL : w.heap.size + 1 < wr.heap.size := Nat.lt_of_lt_of_le bxL hbel.size
    have z0 := (hbel.cell axL).trans ax0
    have s0 := (hbel.cell bxL).trans bx0
    have z1 := (hbel.cell axL).trans ax1
    have s1 := (hbel.cell bxL).trans bx1
    have z2 := (hbel.cell axL).trans ax2
    have s2 := (hbel.cell bxL).trans bx2
    have z3 := (hbel.cell axL).trans ax3
    have s3 := (hbel.cell bxL).trans bx3
    have z4 := (hbel.cell axL).trans ax4
    have s4 := (hbel.cell bxL).trans bx4
    have z5 := (hbel.cell axL).trans ax5
    have s5 := (hbel.cell bxL).trans bx5
    have z6 := (hbel.cell axL).trans ax6
    have s6 := (hbel.cell bxL).trans bx6
    have z7 := (hbel.cell axL).trans ax7
    have s7 := (hbel.cell bxL).trans bx7
    by_cases hlt : k < np
    · obtain ⟨p, o, q, rfl, hp, hq, c0, c1, c2, c3, c4⟩ := rowPl RP.out k (by have := HNp.out; omega)
      obtain ⟨p', o', q', rfl, hp', hq', e0, e1, e2, e3, e4⟩ := rowPl QP.out k (by have := HMp.out; omega)
      have d0 := (hbel.cell hp).trans c0
      have g0 := (hbel.cell hp').trans e0
      have d1 := (hbel.cell hp).trans c1
      have g1 := (hbel.cell hp').trans e1
      have d2 := (hbel.cell hp).trans c2
      have g2 := (hbel.cell hp').trans e2
      have d3 := (hbel.cell hp).trans c3
      have g3 := (hbel.cell hp').trans e3
      have d4 := (hbel.cell hp).trans c4
      have g4 := (hbel.cell hp').trans e4
      have hpw : p < wr.heap.size := Nat.lt_of_lt_of_le hp hbel.size
      have hpw' : p' < wr.heap.size := Nat.lt_of_lt_of_le hp' hbel.size
      have k0 : (0 : Int) ≤ (k : Int) := by omega
      have k1 : (k : Int) < (np : Int) := by omega
      rw [eqlB_at hq hq'] at hpo
      have HPo := hidP hpo
      have hE := fun wx => eqPl_run q q' wx
      generalize eqPlB q q' = r at *
      clear hpo hq hq' c0 e0 c1 e1 c2 e2 c3 e3 c4 e4
      clear hbel z1 s1 z2 s2 z3 s3 z4 s4 z5 s5 z6 s6 z7 s7 ax0 bx0 ax1 bx1 ax2 bx2 ax3 bx3 ax4 bx4 ax5 bx5 ax6 bx6 ax7 bx7
      go_upto_region 6 with fail
      cases r
      · have HSx : Hid (∀ x, Below wr.heap.size wr x → (x.cell? ⟨w.heap.size, 0, none⟩ = some (.slice (some ⟨p, o, none⟩) np cp) ∧ x.cell? ⟨w.heap.size + 1, 0, none⟩ = some (.slice (some ⟨p', o', none⟩) np cp') ∧ x.cell? ⟨p, o + k * 5, none⟩ = some (.bool q.p.s) ∧ x.cell? ⟨p, o + k * 5 + 1, none⟩ = some (.int .i64 q.p.H.toInt) ∧ x.cell? ⟨p, o + k * 5 + 2, none⟩ = some (.int .i64 q.p.L.toInt) ∧ x.cell? ⟨p, o + k * 5 + 3, none⟩ = some (.int .i64 q.p.b) ∧ x.cell? ⟨p, o + k * 5 + 4, none⟩ = some (.int .i64 q.n) ∧ x.cell? ⟨p', o' + k * 5, none⟩ = some (.bool q'.p.s) ∧ x.cell? ⟨p', o' + k * 5 + 1, none⟩ = some (.int .i64 q'.p.H.toInt) ∧ x.cell? ⟨p', o' + k * 5 + 2, none⟩ = some (.int .i64 q'.p.L.toInt) ∧ x.cell? ⟨p', o' + k * 5 + 3, none⟩ = some (.int .i64 q'.p.b) ∧ x.cell? ⟨p', o' + k * 5 + 4, none⟩ = some (.int .i64 q'.n) ∧ Below wr.heap.size wr x)) := hidP fun x h =>
          ⟨(h.cell XL).trans z0, (h.cell YL).trans s0, (h.cell hpw).trans d0, (h.cell hpw).trans d1, (h.cell hpw).trans d2, (h.cell hpw).trans d3, (h.cell hpw).trans d4, (h.cell hpw').trans g0, (h.cell hpw').trans g1, (h.cell hpw').trans g2, (h.cell hpw').trans g3, (h.cell hpw').trans g4, h⟩
        refine wp_region_held_drew (S := (fun x => x.cell? ⟨w.heap.size, 0, none⟩ = some (.slice (some ⟨p, o, none⟩) np cp) ∧ x.cell? ⟨w.heap.size + 1, 0, none⟩ = some (.slice (some ⟨p', o', none⟩) np cp') ∧ x.cell? ⟨p, o + k * 5, none⟩ = some (.bool q.p.s) ∧ x.cell? ⟨p, o + k * 5 + 1, none⟩ = some (.int .i64 q.p.H.toInt) ∧ x.cell? ⟨p, o + k * 5 + 2, none⟩ = some (.int .i64 q.p.L.toInt) ∧ x.cell? ⟨p, o + k * 5 + 3, none⟩ = some (.int .i64 q.p.b) ∧ x.cell? ⟨p, o + k * 5 + 4, none⟩ = some (.int .i64 q.n) ∧ x.cell? ⟨p', o' + k * 5, none⟩ = some (.bool q'.p.s) ∧ x.cell? ⟨p', o' + k * 5 + 1, none⟩ = some (.int .i64 q'.p.H.toInt) ∧ x.cell? ⟨p', o' + k * 5 + 2, none⟩ = some (.int .i64 q'.p.L.toInt) ∧ x.cell? ⟨p', o' + k * 5 + 3, none⟩ = some (.int .i64 q'.p.b) ∧ x.cell? ⟨p', o' + k * 5 + 4, none⟩ = some (.int .i64 q'.n) ∧ Below wr.heap.size wr x)) (by kernel_rfl) ?_ (fun hHeld => ?_)
        · try dsimp only
          exact HSx.out _ ((Below.refl _ _).drew)
        refine tkA 0 59 (v := ?_) rfl (by kernel_rfl) (fun _ _ _ h => h) (by rfl) ?_ (by assumption) ?_; rotate_left; · (intro w hSw; (try dsimp only at hSw); go_simp; try with_reducible rfl)
        simp only [pa]
        refine tkA 1 60 (v := ?_) rfl (by kernel_rfl) (fun _ _ _ h => h) (by rfl) ?_ (by assumption) ?_; rotate_left; · (intro w hSw; (try dsimp only at hSw); go_simp; try with_reducible rfl)
        simp only [pa]
        refine tkA 2 61 (v := ?_) rfl (by kernel_rfl) (fun _ _ _ h => h) (by rfl) ?_ (by assumption) ?_; rotate_left; · (intro w hSw; (try dsimp only at hSw); go_simp; try with_reducible rfl)
        simp only [pa]
        refine tkA 3 62 (v := ?_) rfl (by kernel_rfl) (fun _ _ _ h => h) (by rfl) ?_ (by assumption) ?_; rotate_left; · (intro w hSw; (try dsimp only at hSw); go_simp; try with_reducible rfl)
        simp only [pa]
        refine tkA 4 63 (v := ?_) rfl (by kernel_rfl) (fun _ _ _ h => h) (by rfl) ?_ (by assumption) ?_; rotate_left; · (intro w hSw; (try dsimp only at hSw); go_simp; try with_reducible rfl)
        simp only [pa]
        refine tkA 5 64 (v := ?_) rfl (by kernel_rfl) (fun _ _ _ h => h) (by rfl) ?_ (by assumption) ?_; rotate_left; · (intro w hSw; (try dsimp only at hSw); go_simp; try with_reducible rfl)
        simp only [pa]
        refine tkA 6 65 (v := ?_) rfl (by kernel_rfl) (fun _ _ _ h => h) (by rfl) ?_ (by assumption) ?_; rotate_left; · (intro w hSw; (try dsimp only at hSw); go_simp; try with_reducible rfl)
        simp only [pa]
        refine tkA 7 66 (v := ?_) rfl (by kernel_rfl) (fun _ _ _ h => h) (by rfl) ?_ (by assumption) ?_; rotate_left; · (intro w hSw; (try dsimp only at hSw); go_simp; try with_reducible rfl)
        simp only [pa]
        refine tkA 8 67 (v := ?_) rfl (by kernel_rfl) (fun _ _ _ h => h) (by rfl) ?_ (by assumption) ?_; rotate_left; · (intro w hSw; (try dsimp only at hSw); go_simp; try with_reducible rfl)
        simp only [pa]
        refine tkA 9 68 (v := ?_) rfl (by kernel_rfl) (fun _ _ _ h => h) (by rfl) ?_ (by assumption) ?_; rotate_left; · (intro w hSw; (try dsimp only at hSw); go_simp; try with_reducible rfl)
        simp only [pa]
        refine tkA 10 69 (v := ?_) rfl (by kernel_rfl) (fun _ _ _ h => h) (by rfl) ?_ (by assumption) ?_; rotate_left; · (intro w hSw; (try dsimp only at hSw); go_simp; try with_reducible rfl)
        simp only [pa]
        refine tkA 11 70 (v := ?_) rfl (by kernel_rfl) (fun _ _ _ h => h) (by rfl) ?_ (by assumption) ?_; rotate_left; · (intro w hSw; (try dsimp only at hSw); go_simp; try with_reducible rfl)
        simp only [pa]
        refine tkA 12 71 (v := ?_) rfl (by kernel_rfl) (fun _ _ _ h => h) (by rfl) ?_ (by assumption) ?_; rotate_left; · (intro w hSw; (try dsimp only at hSw); go_simp; try with_reducible rfl)
        simp only [pa]
        have HE := hidP (hHeld.2.2.2.2.2.2.2.2.2.2.2.2)
        refine wpAnyH_done (by kernel_rfl) ?_ _
        clear hHeld
        go_wp2_with fail
        go_ret
        exact ⟨ret_b (by unfold sameB; rw [HPo.out]; simp), AC.out.trans ((HBel.out.trans (HE.out.mono HBel.out.size)).mono AC.out.size)⟩
      · have HSx : Hid (∀ x, Below wr.heap.size wr x → (x.cell? ⟨w.heap.size, 0, none⟩ = some (.slice (some ⟨p, o, none⟩) np cp) ∧ x.cell? ⟨w.heap.size + 1, 0, none⟩ = some (.slice (some ⟨p', o', none⟩) np cp') ∧ x.cell? ⟨p, o + k * 5, none⟩ = some (.bool q.p.s) ∧ x.cell? ⟨p, o + k * 5 + 1, none⟩ = some (.int .i64 q.p.H.toInt) ∧ x.cell? ⟨p, o + k * 5 + 2, none⟩ = some (.int .i64 q.p.L.toInt) ∧ x.cell? ⟨p, o + k * 5 + 3, none⟩ = some (.int .i64 q.p.b) ∧ x.cell? ⟨p, o + k * 5 + 4, none⟩ = some (.int .i64 q.n) ∧ x.cell? ⟨p', o' + k * 5, none⟩ = some (.bool q'.p.s) ∧ x.cell? ⟨p', o' + k * 5 + 1, none⟩ = some (.int .i64 q'.p.H.toInt) ∧ x.cell? ⟨p', o' + k * 5 + 2, none⟩ = some (.int .i64 q'.p.L.toInt) ∧ x.cell? ⟨p', o' + k * 5 + 3, none⟩ = some (.int .i64 q'.p.b) ∧ x.cell? ⟨p', o' + k * 5 + 4, none⟩ = some (.int .i64 q'.n) ∧ Below wr.heap.size wr x)) := hidP fun x h =>
          ⟨(h.cell XL).trans z0, (h.cell YL).trans s0, (h.cell hpw).trans d0, (h.cell hpw).trans d1, (h.cell hpw).trans d2, (h.cell hpw).trans d3, (h.cell hpw).trans d4, (h.cell hpw').trans g0, (h.cell hpw').trans g1, (h.cell hpw').trans g2, (h.cell hpw').trans g3, (h.cell hpw').trans g4, h⟩
        refine wp_region_held_drew (S := (fun x => x.cell? ⟨w.heap.size, 0, none⟩ = some (.slice (some ⟨p, o, none⟩) np cp) ∧ x.cell? ⟨w.heap.size + 1, 0, none⟩ = some (.slice (some ⟨p', o', none⟩) np cp') ∧ x.cell? ⟨p, o + k * 5, none⟩ = some (.bool q.p.s) ∧ x.cell? ⟨p, o + k * 5 + 1, none⟩ = some (.int .i64 q.p.H.toInt) ∧ x.cell? ⟨p, o + k * 5 + 2, none⟩ = some (.int .i64 q.p.L.toInt) ∧ x.cell? ⟨p, o + k * 5 + 3, none⟩ = some (.int .i64 q.p.b) ∧ x.cell? ⟨p, o + k * 5 + 4, none⟩ = some (.int .i64 q.n) ∧ x.cell? ⟨p', o' + k * 5, none⟩ = some (.bool q'.p.s) ∧ x.cell? ⟨p', o' + k * 5 + 1, none⟩ = some (.int .i64 q'.p.H.toInt) ∧ x.cell? ⟨p', o' + k * 5 + 2, none⟩ = some (.int .i64 q'.p.L.toInt) ∧ x.cell? ⟨p', o' + k * 5 + 3, none⟩ = some (.int .i64 q'.p.b) ∧ x.cell? ⟨p', o' + k * 5 + 4, none⟩ = some (.int .i64 q'.n) ∧ Below wr.heap.size wr x)) (by kernel_rfl) ?_ (fun hHeld => ?_)
        · try dsimp only
          exact HSx.out _ ((Below.refl _ _).drew)
        refine tkA 0 59 (v := ?_) rfl (by kernel_rfl) (fun _ _ _ h => h) (by rfl) ?_ (by assumption) ?_; rotate_left; · (intro w hSw; (try dsimp only at hSw); go_simp; try with_reducible rfl)
        simp only [pa]
        refine tkA 1 60 (v := ?_) rfl (by kernel_rfl) (fun _ _ _ h => h) (by rfl) ?_ (by assumption) ?_; rotate_left; · (intro w hSw; (try dsimp only at hSw); go_simp; try with_reducible rfl)
        simp only [pa]
        refine tkA 2 61 (v := ?_) rfl (by kernel_rfl) (fun _ _ _ h => h) (by rfl) ?_ (by assumption) ?_; rotate_left; · (intro w hSw; (try dsimp only at hSw); go_simp; try with_reducible rfl)
        simp only [pa]
        refine tkA 3 62 (v := ?_) rfl (by kernel_rfl) (fun _ _ _ h => h) (by rfl) ?_ (by assumption) ?_; rotate_left; · (intro w hSw; (try dsimp only at hSw); go_simp; try with_reducible rfl)
        simp only [pa]
        refine tkA 4 63 (v := ?_) rfl (by kernel_rfl) (fun _ _ _ h => h) (by rfl) ?_ (by assumption) ?_; rotate_left; · (intro w hSw; (try dsimp only at hSw); go_simp; try with_reducible rfl)
        simp only [pa]
        refine tkA 5 64 (v := ?_) rfl (by kernel_rfl) (fun _ _ _ h => h) (by rfl) ?_ (by assumption) ?_; rotate_left; · (intro w hSw; (try dsimp only at hSw); go_simp; try with_reducible rfl)
        simp only [pa]
        refine tkA 6 65 (v := ?_) rfl (by kernel_rfl) (fun _ _ _ h => h) (by rfl) ?_ (by assumption) ?_; rotate_left; · (intro w hSw; (try dsimp only at hSw); go_simp; try with_reducible rfl)
        simp only [pa]
        refine tkA 7 66 (v := ?_) rfl (by kernel_rfl) (fun _ _ _ h => h) (by rfl) ?_ (by assumption) ?_; rotate_left; · (intro w hSw; (try dsimp only at hSw); go_simp; try with_reducible rfl)
        simp only [pa]
        refine tkA 8 67 (v := ?_) rfl (by kernel_rfl) (fun _ _ _ h => h) (by rfl) ?_ (by assumption) ?_; rotate_left; · (intro w hSw; (try dsimp only at hSw); go_simp; try with_reducible rfl)
        simp only [pa]
        refine tkA 9 68 (v := ?_) rfl (by kernel_rfl) (fun _ _ _ h => h) (by rfl) ?_ (by assumption) ?_; rotate_left; · (intro w hSw; (try dsimp only at hSw); go_simp; try with_reducible rfl)
        simp only [pa]
        refine tkA 10 69 (v := ?_) rfl (by kernel_rfl) (fun _ _ _ h => h) (by rfl) ?_ (by assumption) ?_; rotate_left; · (intro w hSw; (try dsimp only at hSw); go_simp; try with_reducible rfl)
        simp only [pa]
        refine tkA 11 70 (v := ?_) rfl (by kernel_rfl) (fun _ _ _ h => h) (by rfl) ?_ (by assumption) ?_; rotate_left; · (intro w hSw; (try dsimp only at hSw); go_simp; try with_reducible rfl)
        simp only [pa]
        refine tkA 12 71 (v := ?_) rfl (by kernel_rfl) (fun _ _ _ h => h) (by rfl) ?_ (by assumption) ?_; rotate_left; · (intro w hSw; (try dsimp only at hSw); go_simp; try with_reducible rfl)
        simp only [pa]
        have HE := hidP (hHeld.2.2.2.2.2.2.2.2.2.2.2.2)
        refine wpAnyH_done (by kernel_rfl) ?_ _
        clear hHeld
        go_wp2_with fail
        go_roundw
        case rel => exact ⟨k + 1, by omega, by go_num, by rw [HPo.out]; rfl, HBel.out.trans (HE.out.mono HBel.out.size)⟩
        case measure => simp [intOf]; omega
    · have HTp : Hid (eqlB eqPlB ps ps' = true) := hidP (by rw [hpo, eqlB_end (by have := HNp.out; omega) (by have := HMp.out; omega)])
      have gk : decide ((k : Int) < (np : Int)) = false := decide_eq_false (by omega)
      have HBp := HBel
      clear hbel hpo HBel
      go_wp2_with fail
      clear XL YL gk hlt hk z0 s0 z1 s1 z2 s2 z3 s3 z4 s4 z5 s5 z6 s6 z7 s7
      go_loopw [6] (fun tt wr => ∃ k : Nat, k ≤ nb ∧ tt = .int .i64 k ∧ eqlB eqBkB bs bs' = eqlB eqBkB (bs.drop k) (bs'.drop k) ∧ Below W2.heap.size W2 wr) (fun tt _ => nb - (intOf tt).toNat)
      case atStart => exact ⟨0, Nat.zero_le _, rfl, rfl, HBp.out⟩
      case round =>
        obtain ⟨k, hk, rfl, hpo, hbel⟩ := hrel
        have HBel := hidP hbel
        have XL : w.heap.size < wr.heap.size := Nat.lt_of_lt_of_le axL hbel.size
        have YL : w.heap.size + 1 < wr.heap.size := Nat.lt_of_lt_of_le bxL hbel.size
        have z0 := (hbel.cell axL).trans ax0
        have s0 := (hbel.cell bxL).trans bx0
        have z1 := (hbel.cell axL).trans ax1
        have s1 := (hbel.cell bxL).trans bx1
        have z2 := (hbel.cell axL).trans ax2
        have s2 := (hbel.cell bxL).trans bx2
        have z3 := (hbel.cell axL).trans ax3
        have s3 := (hbel.cell bxL).trans bx3
        have z4 := (hbel.cell axL).trans ax4
        have s4 := (hbel.cell bxL).trans bx4
        have z5 := (hbel.cell axL).trans ax5
        have s5 := (hbel.cell bxL).trans bx5
        have z6 := (hbel.cell axL).trans ax6
        have s6 := (hbel.cell bxL).trans bx6
        have z7 := (hbel.cell axL).trans ax7
        have s7 := (hbel.cell bxL).trans bx7
        by_cases hlt : k < nb
        · obtain ⟨p, o, q, rfl, hp, hq, c0, c1, c2, c3, c4⟩ := rowBk RK.out k (by have := HNb.out; omega)
          obtain ⟨p', o', q', rfl, hp', hq', e0, e1, e2, e3, e4⟩ := rowBk QK.out k (by have := HMb.out; omega)
          have d0 := (hbel.cell hp).trans c0
          have g0 := (hbel.cell hp').trans e0
          have d1 := (hbel.cell hp).trans c1
          have g1 := (hbel.cell hp').trans e1
          have d2 := (hbel.cell hp).trans c2
          have g2 := (hbel.cell hp').trans e2
          have d3 := (hbel.cell hp).trans c3
          have g3 := (hbel.cell hp').trans e3
          have d4 := (hbel.cell hp).trans c4
          have g4 := (hbel.cell hp').trans e4
          have hpw : p < wr.heap.size := Nat.lt_of_lt_of_le hp hbel.size
          have hpw' : p' < wr.heap.size := Nat.lt_of_lt_of_le hp' hbel.size
          have k0 : (0 : Int) ≤ (k : Int) := by omega
          have k1 : (k : Int) < (nb : Int) := by omega
          rw [eqlB_at hq hq'] at hpo
          have HPo := hidP hpo
          have hE := fun wx => eqBk_run q q' wx
          generalize eqBkB q q' = r at *
          clear hpo hq hq' c0 e0 c1 e1 c2 e2 c3 e3 c4 e4
          clear hbel z0 s0 z2 s2 z3 s3 z4 s4 z5 s5 z6 s6 z7 s7 ax0 bx0 ax1 bx1 ax2 bx2 ax3 bx3 ax4 bx4 ax5 bx5 ax6 bx6 ax7 bx7
          go_upto_region 11 with fail
          cases r
          · have HSx : Hid (∀ x, Below wr.heap.size wr x → (x.cell? ⟨w.heap.size, 1, none⟩ = some (.slice (some ⟨p, o, none⟩) nb cb) ∧ x.cell? ⟨w.heap.size + 1, 1, none⟩ = some (.slice (some ⟨p', o', none⟩) nb cb') ∧ x.cell? ⟨p, o + k * 5, none⟩ = some (.bool q.p.s) ∧ x.cell? ⟨p, o + k * 5 + 1, none⟩ = some (.int .i64 q.p.H.toInt) ∧ x.cell? ⟨p, o + k * 5 + 2, none⟩ = some (.int .i64 q.p.L.toInt) ∧ x.cell? ⟨p, o + k * 5 + 3, none⟩ = some (.int .i64 q.p.b) ∧ x.cell? ⟨p, o + k * 5 + 4, none⟩ = some (.string q.t) ∧ x.cell? ⟨p', o' + k * 5, none⟩ = some (.bool q'.p.s) ∧ x.cell? ⟨p', o' + k * 5 + 1, none⟩ = some (.int .i64 q'.p.H.toInt) ∧ x.cell? ⟨p', o' + k * 5 + 2, none⟩ = some (.int .i64 q'.p.L.toInt) ∧ x.cell? ⟨p', o' + k * 5 + 3, none⟩ = some (.int .i64 q'.p.b) ∧ x.cell? ⟨p', o' + k * 5 + 4, none⟩ = some (.string q'.t) ∧ Below wr.heap.size wr x)) := hidP fun x h =>
              ⟨(h.cell XL).trans z1, (h.cell YL).trans s1, (h.cell hpw).trans d0, (h.cell hpw).trans d1, (h.cell hpw).trans d2, (h.cell hpw).trans d3, (h.cell hpw).trans d4, (h.cell hpw').trans g0, (h.cell hpw').trans g1, (h.cell hpw').trans g2, (h.cell hpw').trans g3, (h.cell hpw').trans g4, h⟩
            refine wp_region_held_drew (S := (fun x => x.cell? ⟨w.heap.size, 1, none⟩ = some (.slice (some ⟨p, o, none⟩) nb cb) ∧ x.cell? ⟨w.heap.size + 1, 1, none⟩ = some (.slice (some ⟨p', o', none⟩) nb cb') ∧ x.cell? ⟨p, o + k * 5, none⟩ = some (.bool q.p.s) ∧ x.cell? ⟨p, o + k * 5 + 1, none⟩ = some (.int .i64 q.p.H.toInt) ∧ x.cell? ⟨p, o + k * 5 + 2, none⟩ = some (.int .i64 q.p.L.toInt) ∧ x.cell? ⟨p, o + k * 5 + 3, none⟩ = some (.int .i64 q.p.b) ∧ x.cell? ⟨p, o + k * 5 + 4, none⟩ = some (.string q.t) ∧ x.cell? ⟨p', o' + k * 5, none⟩ = some (.bool q'.p.s) ∧ x.cell? ⟨p', o' + k * 5 + 1, none⟩ = some (.int .i64 q'.p.H.toInt) ∧ x.cell? ⟨p', o' + k * 5 + 2, none⟩ = some (.int .i64 q'.p.L.toInt) ∧ x.cell? ⟨p', o' + k * 5 + 3, none⟩ = some (.int .i64 q'.p.b) ∧ x.cell? ⟨p', o' + k * 5 + 4, none⟩ = some (.string q'.t) ∧ Below wr.heap.size wr x)) (by kernel_rfl) ?_ (fun hHeld => ?_)
            · try dsimp only
              exact HSx.out _ ((Below.refl _ _).drew)
            refine tkA 0 80 (v := ?_) rfl (by kernel_rfl) (fun _ _ _ h => h) (by rfl) ?_ (by assumption) ?_; rotate_left; · (intro w hSw; (try dsimp only at hSw); go_simp; try with_reducible rfl)
            simp only [pa]
            refine tkA 1 81 (v := ?_) rfl (by kernel_rfl) (fun _ _ _ h => h) (by rfl) ?_ (by assumption) ?_; rotate_left; · (intro w hSw; (try dsimp only at hSw); go_simp; try with_reducible rfl)
            simp only [pa]
            refine tkA 2 82 (v := ?_) rfl (by kernel_rfl) (fun _ _ _ h => h) (by rfl) ?_ (by assumption) ?_; rotate_left; · (intro w hSw; (try dsimp only at hSw); go_simp; try with_reducible rfl)
            simp only [pa]
            refine tkA 3 83 (v := ?_) rfl (by kernel_rfl) (fun _ _ _ h => h) (by rfl) ?_ (by assumption) ?_; rotate_left; · (intro w hSw; (try dsimp only at hSw); go_simp; try with_reducible rfl)
            simp only [pa]
            refine tkA 4 84 (v := ?_) rfl (by kernel_rfl) (fun _ _ _ h => h) (by rfl) ?_ (by assumption) ?_; rotate_left; · (intro w hSw; (try dsimp only at hSw); go_simp; try with_reducible rfl)
            simp only [pa]
            refine tkA 5 85 (v := ?_) rfl (by kernel_rfl) (fun _ _ _ h => h) (by rfl) ?_ (by assumption) ?_; rotate_left; · (intro w hSw; (try dsimp only at hSw); go_simp; try with_reducible rfl)
            simp only [pa]
            refine tkA 6 86 (v := ?_) rfl (by kernel_rfl) (fun _ _ _ h => h) (by rfl) ?_ (by assumption) ?_; rotate_left; · (intro w hSw; (try dsimp only at hSw); go_simp; try with_reducible rfl)
            simp only [pa]
            refine tkA 7 87 (v := ?_) rfl (by kernel_rfl) (fun _ _ _ h => h) (by rfl) ?_ (by assumption) ?_; rotate_left; · (intro w hSw; (try dsimp only at hSw); go_simp; try with_reducible rfl)
            simp only [pa]
            refine tkA 8 88 (v := ?_) rfl (by kernel_rfl) (fun _ _ _ h => h) (by rfl) ?_ (by assumption) ?_; rotate_left; · (intro w hSw; (try dsimp only at hSw); go_simp; try with_reducible rfl)
            simp only [pa]
            refine tkA 9 89 (v := ?_) rfl (by kernel_rfl) (fun _ _ _ h => h) (by rfl) ?_ (by assumption) ?_; rotate_left; · (intro w hSw; (try dsimp only at hSw); go_simp; try with_reducible rfl)
            simp only [pa]
            refine tkA 10 90 (v := ?_) rfl (by kernel_rfl) (fun _ _ _ h => h) (by rfl) ?_ (by assumption) ?_; rotate_left; · (intro w hSw; (try dsimp only at hSw); go_simp; try with_reducible rfl)
            simp only [pa]
            refine tkA 11 91 (v := ?_) rfl (by kernel_rfl) (fun _ _ _ h => h) (by rfl) ?_ (by assumption) ?_; rotate_left; · (intro w hSw; (try dsimp only at hSw); go_simp; try with_reducible rfl)
            simp only [pa]
            refine tkA 12 92 (v := ?_) rfl (by kernel_rfl) (fun _ _ _ h => h) (by rfl) ?_ (by assumption) ?_; rotate_left; · (intro w hSw; (try dsimp only at hSw); go_simp; try with_reducible rfl)
            simp only [pa]
            have HE := hidP (hHeld.2.2.2.2.2.2.2.2.2.2.2.2)
            refine wpAnyH_done (by kernel_rfl) ?_ _
            clear hHeld
            go_wp2_with fail
            go_ret
            exact ⟨ret_b (by unfold sameB; rw [HTp.out, HPo.out]; simp), AC.out.trans ((HBel.out.trans (HE.out.mono HBel.out.size)).mono AC.out.size)⟩
          · have HSx : Hid (∀ x, Below wr.heap.size wr x → (x.cell? ⟨w.heap.size, 1, none⟩ = some (.slice (some ⟨p, o, none⟩) nb cb) ∧ x.cell? ⟨w.heap.size + 1, 1, none⟩ = some (.slice (some ⟨p', o', none⟩) nb cb') ∧ x.cell? ⟨p, o + k * 5, none⟩ = some (.bool q.p.s) ∧ x.cell? ⟨p, o + k * 5 + 1, none⟩ = some (.int .i64 q.p.H.toInt) ∧ x.cell? ⟨p, o + k * 5 + 2, none⟩ = some (.int .i64 q.p.L.toInt) ∧ x.cell? ⟨p, o + k * 5 + 3, none⟩ = some (.int .i64 q.p.b) ∧ x.cell? ⟨p, o + k * 5 + 4, none⟩ = some (.string q.t) ∧ x.cell? ⟨p', o' + k * 5, none⟩ = some (.bool q'.p.s) ∧ x.cell? ⟨p', o' + k * 5 + 1, none⟩ = some (.int .i64 q'.p.H.toInt) ∧ x.cell? ⟨p', o' + k * 5 + 2, none⟩ = some (.int .i64 q'.p.L.toInt) ∧ x.cell? ⟨p', o' + k * 5 + 3, none⟩ = some (.int .i64 q'.p.b) ∧ x.cell? ⟨p', o' + k * 5 + 4, none⟩ = some (.string q'.t) ∧ Below wr.heap.size wr x)) := hidP fun x h =>
              ⟨(h.cell XL).trans z1, (h.cell YL).trans s1, (h.cell hpw).trans d0, (h.cell hpw).trans d1, (h.cell hpw).trans d2, (h.cell hpw).trans d3, (h.cell hpw).trans d4, (h.cell hpw').trans g0, (h.cell hpw').trans g1, (h.cell hpw').trans g2, (h.cell hpw').trans g3, (h.cell hpw').trans g4, h⟩
            refine wp_region_held_drew (S := (fun x => x.cell? ⟨w.heap.size, 1, none⟩ = some (.slice (some ⟨p, o, none⟩) nb cb) ∧ x.cell? ⟨w.heap.size + 1, 1, none⟩ = some (.slice (some ⟨p', o', none⟩) nb cb') ∧ x.cell? ⟨p, o + k * 5, none⟩ = some (.bool q.p.s) ∧ x.cell? ⟨p, o + k * 5 + 1, none⟩ = some (.int .i64 q.p.H.toInt) ∧ x.cell? ⟨p, o + k * 5 + 2, none⟩ = some (.int .i64 q.p.L.toInt) ∧ x.cell? ⟨p, o + k * 5 + 3, none⟩ = some (.int .i64 q.p.b) ∧ x.cell? ⟨p, o + k * 5 + 4, none⟩ = some (.string q.t) ∧ x.cell? ⟨p', o' + k * 5, none⟩ = some (.bool q'.p.s) ∧ x.cell? ⟨p', o' + k * 5 + 1, none⟩ = some (.int .i64 q'.p.H.toInt) ∧ x.cell? ⟨p', o' + k * 5 + 2, none⟩ = some (.int .i64 q'.p.L.toInt) ∧ x.cell? ⟨p', o' + k * 5 + 3, none⟩ = some (.int .i64 q'.p.b) ∧ x.cell? ⟨p', o' + k * 5 + 4, none⟩ = some (.string q'.t) ∧ Below wr.heap.size wr x)) (by kernel_rfl) ?_ (fun hHeld => ?_)
            · try dsimp only
              exact HSx.out _ ((Below.refl _ _).drew)
            refine tkA 0 80 (v := ?_) rfl (by kernel_rfl) (fun _ _ _ h => h) (by rfl) ?_ (by assumption) ?_; rotate_left; · (intro w hSw; (try dsimp only at hSw); go_simp; try with_reducible rfl)
            simp only [pa]
            refine tkA 1 81 (v := ?_) rfl (by kernel_rfl) (fun _ _ _ h => h) (by rfl) ?_ (by assumption) ?_; rotate_left; · (intro w hSw; (try dsimp only at hSw); go_simp; try with_reducible rfl)
            simp only [pa]
            refine tkA 2 82 (v := ?_) rfl (by kernel_rfl) (fun _ _ _ h => h) (by rfl) ?_ (by assumption) ?_; rotate_left; · (intro w hSw; (try dsimp only at hSw); go_simp; try with_reducible rfl)
            simp only [pa]
            refine tkA 3 83 (v := ?_) rfl (by kernel_rfl) (fun _ _ _ h => h) (by rfl) ?_ (by assumption) ?_; rotate_left; · (intro w hSw; (try dsimp only at hSw); go_simp; try with_reducible rfl)
            simp only [pa]
            refine tkA 4 84 (v := ?_) rfl (by kernel_rfl) (fun _ _ _ h => h) (by rfl) ?_ (by assumption) ?_; rotate_left; · (intro w hSw; (try dsimp only at hSw); go_simp; try with_reducible rfl)
            simp only [pa]
            refine tkA 5 85 (v := ?_) rfl (by kernel_rfl) (fun _ _ _ h => h) (by rfl) ?_ (by assumption) ?_; rotate_left; · (intro w hSw; (try dsimp only at hSw); go_simp; try with_reducible rfl)
            simp only [pa]
            refine tkA 6 86 (v := ?_) rfl (by kernel_rfl) (fun _ _ _ h => h) (by rfl) ?_ (by assumption) ?_; rotate_left; · (intro w hSw; (try dsimp only at hSw); go_simp; try with_reducible rfl)
            simp only [pa]
            refine tkA 7 87 (v := ?_) rfl (by kernel_rfl) (fun _ _ _ h => h) (by rfl) ?_ (by assumption) ?_; rotate_left; · (intro w hSw; (try dsimp only at hSw); go_simp; try with_reducible rfl)
            simp only [pa]
            refine tkA 8 88 (v := ?_) rfl (by kernel_rfl) (fun _ _ _ h => h) (by rfl) ?_ (by assumption) ?_; rotate_left; · (intro w hSw; (try dsimp only at hSw); go_simp; try with_reducible rfl)
            simp only [pa]
            refine tkA 9 89 (v := ?_) rfl (by kernel_rfl) (fun _ _ _ h => h) (by rfl) ?_ (by assumption) ?_; rotate_left; · (intro w hSw; (try dsimp only at hSw); go_simp; try with_reducible rfl)
            simp only [pa]
            refine tkA 10 90 (v := ?_) rfl (by kernel_rfl) (fun _ _ _ h => h) (by rfl) ?_ (by assumption) ?_; rotate_left; · (intro w hSw; (try dsimp only at hSw); go_simp; try with_reducible rfl)
            simp only [pa]
            refine tkA 11 91 (v := ?_) rfl (by kernel_rfl) (fun _ _ _ h => h) (by rfl) ?_ (by assumption) ?_; rotate_left; · (intro w hSw; (try dsimp only at hSw); go_simp; try with_reducible rfl)
            simp only [pa]
            refine tkA 12 92 (v := ?_) rfl (by kernel_rfl) (fun _ _ _ h => h) (by rfl) ?_ (by assumption) ?_; rotate_left; · (intro w hSw; (try dsimp only at hSw); go_simp; try with_reducible rfl)
            simp only [pa]
            have HE := hidP (hHeld.2.2.2.2.2.2.2.2.2.2.2.2)
            refine wpAnyH_done (by kernel_rfl) ?_ _
            clear hHeld
            go_wp2_with fail
            go_roundw
            case rel => exact ⟨k + 1, by omega, by go_num, by rw [HPo.out]; rfl, HBel.out.trans (HE.out.mono HBel.out.size)⟩
            case measure => simp [intOf]; omega
        · have HTb : Hid (eqlB eqBkB bs bs' = true) := hidP (by rw [hpo, eqlB_end (by have := HNb.out; omega) (by have := HMb.out; omega)])
          have gk : decide ((k : Int) < (nb : Int)) = false := decide_eq_false (by omega)
          have HBb := HBel
          clear hbel hpo HBel
          go_wp2_with fail
          clear XL YL gk hlt hk z0 s0 z1 s1 z2 s2 z3 s3 z4 s4 z5 s5 z6 s6 z7 s7
          go_loopw [7] (fun tt wr => ∃ k : Nat, k ≤ nl ∧ tt = .int .i64 k ∧ eqlB eqLsB ls ls' = eqlB eqLsB (ls.drop k) (ls'.drop k) ∧ Below W2.heap.size W2 wr) (fun tt _ => nl - (intOf tt).toNat)
          case atStart => exact ⟨0, Nat.zero_le _, rfl, rfl, HBb.out⟩
          case round =>
            obtain ⟨k, hk, rfl, hpo, hbel⟩ := hrel
            have HBel := hidP hbel
            have XL : w.heap.size < wr.heap.size := Nat.lt_of_lt_of_le axL hbel.size
            have YL : w.heap.size + 1 < wr.heap.size := Nat.lt_of_lt_of_le bxL hbel.size
            have z0 := (hbel.cell axL).trans ax0
            have s0 := (hbel.cell bxL).trans bx0
            have z1 := (hbel.cell axL).trans ax1
            have s1 := (hbel.cell bxL).trans bx1
            have z2 := (hbel.cell axL).trans ax2
            have s2 := (hbel.cell bxL).trans bx2
            have z3 := (hbel.cell axL).trans ax3
            have s3 := (hbel.cell bxL).trans bx3
            have z4 := (hbel.cell axL).trans ax4
            have s4 := (hbel.cell bxL).trans bx4
            have z5 := (hbel.cell axL).trans ax5
            have s5 := (hbel.cell bxL).trans bx5
            have z6 := (hbel.cell axL).trans ax6
            have s6 := (hbel.cell bxL).trans bx6
            have z7 := (hbel.cell axL).trans ax7
            have s7 := (hbel.cell bxL).trans bx7
            by_cases hlt : k < nl
            · obtain ⟨p, o, q, rfl, hp, hq, c0, c1, c2, c3, c4, c5⟩ := rowLs RL.out k (by have := HNl.out; omega)
              obtain ⟨p', o', q', rfl, hp', hq', e0, e1, e2, e3, e4, e5⟩ := rowLs QL.out k (by have := HMl.out; omega)
              have d0 := (hbel.cell hp).trans c0
              have g0 := (hbel.cell hp').trans e0
              have d1 := (hbel.cell hp).trans c1
              have g1 := (hbel.cell hp').trans e1
              have d2 := (hbel.cell hp).trans c2
              have g2 := (hbel.cell hp').trans e2
              have d3 := (hbel.cell hp).trans c3
              have g3 := (hbel.cell hp').trans e3
              have d4 := (hbel.cell hp).trans c4
              have g4 := (hbel.cell hp').trans e4
              have d5 := (hbel.cell hp).trans c5
              have g5 := (hbel.cell hp').trans e5
              have hpw : p < wr.heap.size := Nat.lt_of_lt_of_le hp hbel.size
              have hpw' : p' < wr.heap.size := Nat.lt_of_lt_of_le hp' hbel.size
              have k0 : (0 : Int) ≤ (k : Int) := by omega
              have k1 : (k : Int) < (nl : Int) := by omega
              rw [eqlB_at hq hq'] at hpo
              have HPo := hidP hpo
              have hE := fun wx => eqLs_run q q' wx
              generalize eqLsB q q' = r at *
              clear hpo hq hq' c0 e0 c1 e1 c2 e2 c3 e3 c4 e4 c5 e5
              clear hbel z0 s0 z1 s1 z3 s3 z4 s4 z5 s5 z6 s6 z7 s7 ax0 bx0 ax1 bx1 ax2 bx2 ax3 bx3 ax4 bx4 ax5 bx5 ax6 bx6 ax7 bx7
              go_upto_region 16 with fail
              cases r
              · have HSx : Hid (∀ x, Below wr.heap.size wr x → (x.cell? ⟨w.heap.size, 2, none⟩ = some (.slice (some ⟨p, o, none⟩) nl cl) ∧ x.cell? ⟨w.heap.size + 1, 2, none⟩ = some (.slice (some ⟨p', o', none⟩) nl cl') ∧ x.cell? ⟨p, o + k * 6, none⟩ = some (.bool q.a.s) ∧ x.cell? ⟨p, o + k * 6 + 1, none⟩ = some (.int .i64 q.a.H.toInt) ∧ x.cell? ⟨p, o + k * 6 + 2, none⟩ = some (.int .i64 q.a.L.toInt) ∧ x.cell? ⟨p, o + k * 6 + 3, none⟩ = some (.string q.t) ∧ x.cell? ⟨p, o + k * 6 + 4, none⟩ = some (.int .i64 q.k) ∧ x.cell? ⟨p, o + k * 6 + 5, none⟩ = some (.int .i64 q.u) ∧ x.cell? ⟨p', o' + k * 6, none⟩ = some (.bool q'.a.s) ∧ x.cell? ⟨p', o' + k * 6 + 1, none⟩ = some (.int .i64 q'.a.H.toInt) ∧ x.cell? ⟨p', o' + k * 6 + 2, none⟩ = some (.int .i64 q'.a.L.toInt) ∧ x.cell? ⟨p', o' + k * 6 + 3, none⟩ = some (.string q'.t) ∧ x.cell? ⟨p', o' + k * 6 + 4, none⟩ = some (.int .i64 q'.k) ∧ x.cell? ⟨p', o' + k * 6 + 5, none⟩ = some (.int .i64 q'.u) ∧ Below wr.heap.size wr x)) := hidP fun x h =>
                  ⟨(h.cell XL).trans z2, (h.cell YL).trans s2, (h.cell hpw).trans d0, (h.cell hpw).trans d1, (h.cell hpw).trans d2, (h.cell hpw).trans d3, (h.cell hpw).trans d4, (h.cell hpw).trans d5, (h.cell hpw').trans g0, (h.cell hpw').trans g1, (h.cell hpw').trans g2, (h.cell hpw').trans g3, (h.cell hpw').trans g4, (h.cell hpw').trans g5, h⟩
                refine wp_region_held_drew (S := (fun x => x.cell? ⟨w.heap.size, 2, none⟩ = some (.slice (some ⟨p, o, none⟩) nl cl) ∧ x.cell? ⟨w.heap.size + 1, 2, none⟩ = some (.slice (some ⟨p', o', none⟩) nl cl') ∧ x.cell? ⟨p, o + k * 6, none⟩ = some (.bool q.a.s) ∧ x.cell? ⟨p, o + k * 6 + 1, none⟩ = some (.int .i64 q.a.H.toInt) ∧ x.cell? ⟨p, o + k * 6 + 2, none⟩ = some (.int .i64 q.a.L.toInt) ∧ x.cell? ⟨p, o + k * 6 + 3, none⟩ = some (.string q.t) ∧ x.cell? ⟨p, o + k * 6 + 4, none⟩ = some (.int .i64 q.k) ∧ x.cell? ⟨p, o + k * 6 + 5, none⟩ = some (.int .i64 q.u) ∧ x.cell? ⟨p', o' + k * 6, none⟩ = some (.bool q'.a.s) ∧ x.cell? ⟨p', o' + k * 6 + 1, none⟩ = some (.int .i64 q'.a.H.toInt) ∧ x.cell? ⟨p', o' + k * 6 + 2, none⟩ = some (.int .i64 q'.a.L.toInt) ∧ x.cell? ⟨p', o' + k * 6 + 3, none⟩ = some (.string q'.t) ∧ x.cell? ⟨p', o' + k * 6 + 4, none⟩ = some (.int .i64 q'.k) ∧ x.cell? ⟨p', o' + k * 6 + 5, none⟩ = some (.int .i64 q'.u) ∧ Below wr.heap.size wr x)) (by kernel_rfl) ?_ (fun hHeld => ?_)
                · try dsimp only
                  exact HSx.out _ ((Below.refl _ _).drew)
                refine tkA 0 101 (v := ?_) rfl (by kernel_rfl) (fun _ _ _ h => h) (by rfl) ?_ (by assumption) ?_; rotate_left; · (intro w hSw; (try dsimp only at hSw); go_simp; try with_reducible rfl)
                simp only [pa]
                refine tkA 1 102 (v := ?_) rfl (by kernel_rfl) (fun _ _ _ h => h) (by rfl) ?_ (by assumption) ?_; rotate_left; · (intro w hSw; (try dsimp only at hSw); go_simp; try with_reducible rfl)
                simp only [pa]
                refine tkA 2 103 (v := ?_) rfl (by kernel_rfl) (fun _ _ _ h => h) (by rfl) ?_ (by assumption) ?_; rotate_left; · (intro w hSw; (try dsimp only at hSw); go_simp; try with_reducible rfl)
                simp only [pa]
                refine tkA 3 104 (v := ?_) rfl (by kernel_rfl) (fun _ _ _ h => h) (by rfl) ?_ (by assumption) ?_; rotate_left; · (intro w hSw; (try dsimp only at hSw); go_simp; try with_reducible rfl)
                simp only [pa]
                refine tkA 4 105 (v := ?_) rfl (by kernel_rfl) (fun _ _ _ h => h) (by rfl) ?_ (by assumption) ?_; rotate_left; · (intro w hSw; (try dsimp only at hSw); go_simp; try with_reducible rfl)
                simp only [pa]
                refine tkA 5 106 (v := ?_) rfl (by kernel_rfl) (fun _ _ _ h => h) (by rfl) ?_ (by assumption) ?_; rotate_left; · (intro w hSw; (try dsimp only at hSw); go_simp; try with_reducible rfl)
                simp only [pa]
                refine tkA 6 107 (v := ?_) rfl (by kernel_rfl) (fun _ _ _ h => h) (by rfl) ?_ (by assumption) ?_; rotate_left; · (intro w hSw; (try dsimp only at hSw); go_simp; try with_reducible rfl)
                simp only [pa]
                refine tkA 7 108 (v := ?_) rfl (by kernel_rfl) (fun _ _ _ h => h) (by rfl) ?_ (by assumption) ?_; rotate_left; · (intro w hSw; (try dsimp only at hSw); go_simp; try with_reducible rfl)
                simp only [pa]
                refine tkA 8 109 (v := ?_) rfl (by kernel_rfl) (fun _ _ _ h => h) (by rfl) ?_ (by assumption) ?_; rotate_left; · (intro w hSw; (try dsimp only at hSw); go_simp; try with_reducible rfl)
                simp only [pa]
                refine tkA 9 110 (v := ?_) rfl (by kernel_rfl) (fun _ _ _ h => h) (by rfl) ?_ (by assumption) ?_; rotate_left; · (intro w hSw; (try dsimp only at hSw); go_simp; try with_reducible rfl)
                simp only [pa]
                refine tkA 10 111 (v := ?_) rfl (by kernel_rfl) (fun _ _ _ h => h) (by rfl) ?_ (by assumption) ?_; rotate_left; · (intro w hSw; (try dsimp only at hSw); go_simp; try with_reducible rfl)
                simp only [pa]
                refine tkA 11 112 (v := ?_) rfl (by kernel_rfl) (fun _ _ _ h => h) (by rfl) ?_ (by assumption) ?_; rotate_left; · (intro w hSw; (try dsimp only at hSw); go_simp; try with_reducible rfl)
                simp only [pa]
                refine tkA 12 113 (v := ?_) rfl (by kernel_rfl) (fun _ _ _ h => h) (by rfl) ?_ (by assumption) ?_; rotate_left; · (intro w hSw; (try dsimp only at hSw); go_simp; try with_reducible rfl)
                simp only [pa]
                have HE := hidP (hHeld.2.2.2.2.2.2.2.2.2.2.2.2.2.2)
                refine wpAnyH_done (by kernel_rfl) ?_ _
                clear hHeld
                go_wp2_with fail
                go_ret
                exact ⟨ret_b (by unfold sameB; rw [HTp.out, HTb.out, HPo.out]; simp), AC.out.trans ((HBel.out.trans (HE.out.mono HBel.out.size)).mono AC.out.size)⟩
              · have HSx : Hid (∀ x, Below wr.heap.size wr x → (x.cell? ⟨w.heap.size, 2, none⟩ = some (.slice (some ⟨p, o, none⟩) nl cl) ∧ x.cell? ⟨w.heap.size + 1, 2, none⟩ = some (.slice (some ⟨p', o', none⟩) nl cl') ∧ x.cell? ⟨p, o + k * 6, none⟩ = some (.bool q.a.s) ∧ x.cell? ⟨p, o + k * 6 + 1, none⟩ = some (.int .i64 q.a.H.toInt) ∧ x.cell? ⟨p, o + k * 6 + 2, none⟩ = some (.int .i64 q.a.L.toInt) ∧ x.cell? ⟨p, o + k * 6 + 3, none⟩ = some (.string q.t) ∧ x.cell? ⟨p, o + k * 6 + 4, none⟩ = some (.int .i64 q.k) ∧ x.cell? ⟨p, o + k * 6 + 5, none⟩ = some (.int .i64 q.u) ∧ x.cell? ⟨p', o' + k * 6, none⟩ = some (.bool q'.a.s) ∧ x.cell? ⟨p', o' + k * 6 + 1, none⟩ = some (.int .i64 q'.a.H.toInt) ∧ x.cell? ⟨p', o' + k * 6 + 2, none⟩ = some (.int .i64 q'.a.L.toInt) ∧ x.cell? ⟨p', o' + k * 6 + 3, none⟩ = some (.string q'.t) ∧ x.cell? ⟨p', o' + k * 6 + 4, none⟩ = some (.int .i64 q'.k) ∧ x.cell? ⟨p', o' + k * 6 + 5, none⟩ = some (.int .i64 q'.u) ∧ Below wr.heap.size wr x)) := hidP fun x h =>
                  ⟨(h.cell XL).trans z2, (h.cell YL).trans s2, (h.cell hpw).trans d0, (h.cell hpw).trans d1, (h.cell hpw).trans d2, (h.cell hpw).trans d3, (h.cell hpw).trans d4, (h.cell hpw).trans d5, (h.cell hpw').trans g0, (h.cell hpw').trans g1, (h.cell hpw').trans g2, (h.cell hpw').trans g3, (h.cell hpw').trans g4, (h.cell hpw').trans g5, h⟩
                refine wp_region_held_drew (S := (fun x => x.cell? ⟨w.heap.size, 2, none⟩ = some (.slice (some ⟨p, o, none⟩) nl cl) ∧ x.cell? ⟨w.heap.size + 1, 2, none⟩ = some (.slice (some ⟨p', o', none⟩) nl cl') ∧ x.cell? ⟨p, o + k * 6, none⟩ = some (.bool q.a.s) ∧ x.cell? ⟨p, o + k * 6 + 1, none⟩ = some (.int .i64 q.a.H.toInt) ∧ x.cell? ⟨p, o + k * 6 + 2, none⟩ = some (.int .i64 q.a.L.toInt) ∧ x.cell? ⟨p, o + k * 6 + 3, none⟩ = some (.string q.t) ∧ x.cell? ⟨p, o + k * 6 + 4, none⟩ = some (.int .i64 q.k) ∧ x.cell? ⟨p, o + k * 6 + 5, none⟩ = some (.int .i64 q.u) ∧ x.cell? ⟨p', o' + k * 6, none⟩ = some (.bool q'.a.s) ∧ x.cell? ⟨p', o' + k * 6 + 1, none⟩ = some (.int .i64 q'.a.H.toInt) ∧ x.cell? ⟨p', o' + k * 6 + 2, none⟩ = some (.int .i64 q'.a.L.toInt) ∧ x.cell? ⟨p', o' + k * 6 + 3, none⟩ = some (.string q'.t) ∧ x.cell? ⟨p', o' + k * 6 + 4, none⟩ = some (.int .i64 q'.k) ∧ x.cell? ⟨p', o' + k * 6 + 5, none⟩ = some (.int .i64 q'.u) ∧ Below wr.heap.size wr x)) (by kernel_rfl) ?_ (fun hHeld => ?_)
                · try dsimp only
                  exact HSx.out _ ((Below.refl _ _).drew)
                refine tkA 0 101 (v := ?_) rfl (by kernel_rfl) (fun _ _ _ h => h) (by rfl) ?_ (by assumption) ?_; rotate_left; · (intro w hSw; (try dsimp only at hSw); go_simp; try with_reducible rfl)
                simp only [pa]
                refine tkA 1 102 (v := ?_) rfl (by kernel_rfl) (fun _ _ _ h => h) (by rfl) ?_ (by assumption) ?_; rotate_left; · (intro w hSw; (try dsimp only at hSw); go_simp; try with_reducible rfl)
                simp only [pa]
                refine tkA 2 103 (v := ?_) rfl (by kernel_rfl) (fun _ _ _ h => h) (by rfl) ?_ (by assumption) ?_; rotate_left; · (intro w hSw; (try dsimp only at hSw); go_simp; try with_reducible rfl)
                simp only [pa]
                refine tkA 3 104 (v := ?_) rfl (by kernel_rfl) (fun _ _ _ h => h) (by rfl) ?_ (by assumption) ?_; rotate_left; · (intro w hSw; (try dsimp only at hSw); go_simp; try with_reducible rfl)
                simp only [pa]
                refine tkA 4 105 (v := ?_) rfl (by kernel_rfl) (fun _ _ _ h => h) (by rfl) ?_ (by assumption) ?_; rotate_left; · (intro w hSw; (try dsimp only at hSw); go_simp; try with_reducible rfl)
                simp only [pa]
                refine tkA 5 106 (v := ?_) rfl (by kernel_rfl) (fun _ _ _ h => h) (by rfl) ?_ (by assumption) ?_; rotate_left; · (intro w hSw; (try dsimp only at hSw); go_simp; try with_reducible rfl)
                simp only [pa]
                refine tkA 6 107 (v := ?_) rfl (by kernel_rfl) (fun _ _ _ h => h) (by rfl) ?_ (by assumption) ?_; rotate_left; · (intro w hSw; (try dsimp only at hSw); go_simp; try with_reducible rfl)
                simp only [pa]
                refine tkA 7 108 (v := ?_) rfl (by kernel_rfl) (fun _ _ _ h => h) (by rfl) ?_ (by assumption) ?_; rotate_left; · (intro w hSw; (try dsimp only at hSw); go_simp; try with_reducible rfl)
                simp only [pa]
                refine tkA 8 109 (v := ?_) rfl (by kernel_rfl) (fun _ _ _ h => h) (by rfl) ?_ (by assumption) ?_; rotate_left; · (intro w hSw; (try dsimp only at hSw); go_simp; try with_reducible rfl)
                simp only [pa]
                refine tkA 9 110 (v := ?_) rfl (by kernel_rfl) (fun _ _ _ h => h) (by rfl) ?_ (by assumption) ?_; rotate_left; · (intro w hSw; (try dsimp only at hSw); go_simp; try with_reducible rfl)
                simp only [pa]
                refine tkA 10 111 (v := ?_) rfl (by kernel_rfl) (fun _ _ _ h => h) (by rfl) ?_ (by assumption) ?_; rotate_left; · (intro w hSw; (try dsimp only at hSw); go_simp; try with_reducible rfl)
                simp only [pa]
                refine tkA 11 112 (v := ?_) rfl (by kernel_rfl) (fun _ _ _ h => h) (by rfl) ?_ (by assumption) ?_; rotate_left; · (intro w hSw; (try dsimp only at hSw); go_simp; try with_reducible rfl)
                simp only [pa]
                refine tkA 12 113 (v := ?_) rfl (by kernel_rfl) (fun _ _ _ h => h) (by rfl) ?_ (by assumption) ?_; rotate_left; · (intro w hSw; (try dsimp only at hSw); go_simp; try with_reducible rfl)
                simp only [pa]
                have HE := hidP (hHeld.2.2.2.2.2.2.2.2.2.2.2.2.2.2)
                refine wpAnyH_done (by kernel_rfl) ?_ _
                clear hHeld
                go_wp2_with fail
                go_roundw
                case rel => exact ⟨k + 1, by omega, by go_num, by rw [HPo.out]; rfl, HBel.out.trans (HE.out.mono HBel.out.size)⟩
                case measure => simp [intOf]; omega
            · have HTl : Hid (eqlB eqLsB ls ls' = true) := hidP (by rw [hpo, eqlB_end (by have := HNl.out; omega) (by have := HMl.out; omega)])
              have gk : decide ((k : Int) < (nl : Int)) = false := decide_eq_false (by omega)
              have HBl := HBel
              clear hbel hpo HBel
              go_wp2_with fail
              clear XL YL gk hlt hk z0 s0 z1 s1 z2 s2 z3 s3 z4 s4 z5 s5 z6 s6 z7 s7
              go_loopw [8] (fun tt wr => ∃ k : Nat, k ≤ ns ∧ tt = .int .i64 k ∧ eqlB eqSsB ss ss' = eqlB eqSsB (ss.drop k) (ss'.drop k) ∧ Below W2.heap.size W2 wr) (fun tt _ => ns - (intOf tt).toNat)
              case atStart => exact ⟨0, Nat.zero_le _, rfl, rfl, HBl.out⟩
              case round =>
                obtain ⟨k, hk, rfl, hpo, hbel⟩ := hrel
                have HBel := hidP hbel
                have XL : w.heap.size < wr.heap.size := Nat.lt_of_lt_of_le axL hbel.size
                have YL : w.heap.size + 1 < wr.heap.size := Nat.lt_of_lt_of_le bxL hbel.size
                have z0 := (hbel.cell axL).trans ax0
                have s0 := (hbel.cell bxL).trans bx0
                have z1 := (hbel.cell axL).trans ax1
                have s1 := (hbel.cell bxL).trans bx1
                have z2 := (hbel.cell axL).trans ax2
                have s2 := (hbel.cell bxL).trans bx2
                have z3 := (hbel.cell axL).trans ax3
                have s3 := (hbel.cell bxL).trans bx3
                have z4 := (hbel.cell axL).trans ax4
                have s4 := (hbel.cell bxL).trans bx4
                have z5 := (hbel.cell axL).trans ax5
                have s5 := (hbel.cell bxL).trans bx5
                have z6 := (hbel.cell axL).trans ax6
                have s6 := (hbel.cell bxL).trans bx6
                have z7 := (hbel.cell axL).trans ax7
                have s7 := (hbel.cell bxL).trans bx7
                by_cases hlt : k < ns
                · obtain ⟨p, o, q, rfl, hp, hq, c0, c1, c2, c3⟩ := rowSs RS.out k (by have := HNs.out; omega)
                  obtain ⟨p', o', q', rfl, hp', hq', e0, e1, e2, e3⟩ := rowSs QS.out k (by have := HMs.out; omega)
                  have d0 := (hbel.cell hp).trans c0
                  have g0 := (hbel.cell hp').trans e0
                  have d1 := (hbel.cell hp).trans c1
                  have g1 := (hbel.cell hp').trans e1
                  have d2 := (hbel.cell hp).trans c2
                  have g2 := (hbel.cell hp').trans e2
                  have d3 := (hbel.cell hp).trans c3
                  have g3 := (hbel.cell hp').trans e3
                  have hpw : p < wr.heap.size := Nat.lt_of_lt_of_le hp hbel.size
                  have hpw' : p' < wr.heap.size := Nat.lt_of_lt_of_le hp' hbel.size
                  have k0 : (0 : Int) ≤ (k : Int) := by omega
                  have k1 : (k : Int) < (ns : Int) := by omega
                  rw [eqlB_at hq hq'] at hpo
                  have HPo := hidP hpo
                  have hE := fun wx => eqSs_run q q' wx
                  generalize eqSsB q q' = r at *
                  clear hpo hq hq' c0 e0 c1 e1 c2 e2 c3 e3
                  clear hbel z0 s0 z1 s1 z2 s2 z3 s3 z4 s4 z6 s6 z7 s7 ax0 bx0 ax1 bx1 ax2 bx2 ax3 bx3 ax4 bx4 ax5 bx5 ax6 bx6 ax7 bx7
                  go_upto_region 21 with fail
                  cases r
                  · have HSx : Hid (∀ x, Below wr.heap.size wr x → (x.cell? ⟨w.heap.size, 5, none⟩ = some (.slice (some ⟨p, o, none⟩) ns cs) ∧ x.cell? ⟨w.heap.size + 1, 5, none⟩ = some (.slice (some ⟨p', o', none⟩) ns cs') ∧ x.cell? ⟨p, o + k * 4, none⟩ = some (.int .i64 q.i) ∧ x.cell? ⟨p, o + k * 4 + 1, none⟩ = some (.int .i64 q.l) ∧ x.cell? ⟨p, o + k * 4 + 2, none⟩ = some (.string q.t) ∧ x.cell? ⟨p, o + k * 4 + 3, none⟩ = some (.int .i64 q.u) ∧ x.cell? ⟨p', o' + k * 4, none⟩ = some (.int .i64 q'.i) ∧ x.cell? ⟨p', o' + k * 4 + 1, none⟩ = some (.int .i64 q'.l) ∧ x.cell? ⟨p', o' + k * 4 + 2, none⟩ = some (.string q'.t) ∧ x.cell? ⟨p', o' + k * 4 + 3, none⟩ = some (.int .i64 q'.u) ∧ Below wr.heap.size wr x)) := hidP fun x h =>
                      ⟨(h.cell XL).trans z5, (h.cell YL).trans s5, (h.cell hpw).trans d0, (h.cell hpw).trans d1, (h.cell hpw).trans d2, (h.cell hpw).trans d3, (h.cell hpw').trans g0, (h.cell hpw').trans g1, (h.cell hpw').trans g2, (h.cell hpw').trans g3, h⟩
                    refine wp_region_held_drew (S := (fun x => x.cell? ⟨w.heap.size, 5, none⟩ = some (.slice (some ⟨p, o, none⟩) ns cs) ∧ x.cell? ⟨w.heap.size + 1, 5, none⟩ = some (.slice (some ⟨p', o', none⟩) ns cs') ∧ x.cell? ⟨p, o + k * 4, none⟩ = some (.int .i64 q.i) ∧ x.cell? ⟨p, o + k * 4 + 1, none⟩ = some (.int .i64 q.l) ∧ x.cell? ⟨p, o + k * 4 + 2, none⟩ = some (.string q.t) ∧ x.cell? ⟨p, o + k * 4 + 3, none⟩ = some (.int .i64 q.u) ∧ x.cell? ⟨p', o' + k * 4, none⟩ = some (.int .i64 q'.i) ∧ x.cell? ⟨p', o' + k * 4 + 1, none⟩ = some (.int .i64 q'.l) ∧ x.cell? ⟨p', o' + k * 4 + 2, none⟩ = some (.string q'.t) ∧ x.cell? ⟨p', o' + k * 4 + 3, none⟩ = some (.int .i64 q'.u) ∧ Below wr.heap.size wr x)) (by kernel_rfl) ?_ (fun hHeld => ?_)
                    · try dsimp only
                      exact HSx.out _ ((Below.refl _ _).drew)
                    refine tkA 0 122 (v := ?_) rfl (by kernel_rfl) (fun _ _ _ h => h) (by rfl) ?_ (by assumption) ?_; rotate_left; · (intro w hSw; (try dsimp only at hSw); go_simp; try with_reducible rfl)
                    simp only [pa]
                    refine tkA 1 123 (v := ?_) rfl (by kernel_rfl) (fun _ _ _ h => h) (by rfl) ?_ (by assumption) ?_; rotate_left; · (intro w hSw; (try dsimp only at hSw); go_simp; try with_reducible rfl)
                    simp only [pa]
                    refine tkA 2 124 (v := ?_) rfl (by kernel_rfl) (fun _ _ _ h => h) (by rfl) ?_ (by assumption) ?_; rotate_left; · (intro w hSw; (try dsimp only at hSw); go_simp; try with_reducible rfl)
                    simp only [pa]
                    refine tkA 3 125 (v := ?_) rfl (by kernel_rfl) (fun _ _ _ h => h) (by rfl) ?_ (by assumption) ?_; rotate_left; · (intro w hSw; (try dsimp only at hSw); go_simp; try with_reducible rfl)
                    simp only [pa]
                    refine tkA 4 126 (v := ?_) rfl (by kernel_rfl) (fun _ _ _ h => h) (by rfl) ?_ (by assumption) ?_; rotate_left; · (intro w hSw; (try dsimp only at hSw); go_simp; try with_reducible rfl)
                    simp only [pa]
                    refine tkA 5 127 (v := ?_) rfl (by kernel_rfl) (fun _ _ _ h => h) (by rfl) ?_ (by assumption) ?_; rotate_left; · (intro w hSw; (try dsimp only at hSw); go_simp; try with_reducible rfl)
                    simp only [pa]
                    refine tkA 6 128 (v := ?_) rfl (by kernel_rfl) (fun _ _ _ h => h) (by rfl) ?_ (by assumption) ?_; rotate_left; · (intro w hSw; (try dsimp only at hSw); go_simp; try with_reducible rfl)
                    simp only [pa]
                    refine tkA 7 129 (v := ?_) rfl (by kernel_rfl) (fun _ _ _ h => h) (by rfl) ?_ (by assumption) ?_; rotate_left; · (intro w hSw; (try dsimp only at hSw); go_simp; try with_reducible rfl)
                    simp only [pa]
                    refine tkA 8 130 (v := ?_) rfl (by kernel_rfl) (fun _ _ _ h => h) (by rfl) ?_ (by assumption) ?_; rotate_left; · (intro w hSw; (try dsimp only at hSw); go_simp; try with_reducible rfl)
                    simp only [pa]
                    refine tkA 9 131 (v := ?_) rfl (by kernel_rfl) (fun _ _ _ h => h) (by rfl) ?_ (by assumption) ?_; rotate_left; · (intro w hSw; (try dsimp only at hSw); go_simp; try with_reducible rfl)
                    simp only [pa]
                    refine tkA 10 132 (v := ?_) rfl (by kernel_rfl) (fun _ _ _ h => h) (by rfl) ?_ (by assumption) ?_; rotate_left; · (intro w hSw; (try dsimp only at hSw); go_simp; try with_reducible rfl)
                    simp only [pa]
                    refine tkA 11 133 (v := ?_) rfl (by kernel_rfl) (fun _ _ _ h => h) (by rfl) ?_ (by assumption) ?_; rotate_left; · (intro w hSw; (try dsimp only at hSw); go_simp; try with_reducible rfl)
                    simp only [pa]
                    refine tkA 12 134 (v := ?_) rfl (by kernel_rfl) (fun _ _ _ h => h) (by rfl) ?_ (by assumption) ?_; rotate_left; · (intro w hSw; (try dsimp only at hSw); go_simp; try with_reducible rfl)
                    simp only [pa]
                    have HE := hidP (hHeld.2.2.2.2.2.2.2.2.2.2)
                    refine wpAnyH_done (by kernel_rfl) ?_ _
                    clear hHeld
                    go_wp2_with fail
                    go_ret
                    exact ⟨ret_b (by unfold sameB; rw [HTp.out, HTb.out, HTl.out, HPo.out]; simp), AC.out.trans ((HBel.out.trans (HE.out.mono HBel.out.size)).mono AC.out.size)⟩
                  · have HSx : Hid (∀ x, Below wr.heap.size wr x → (x.cell? ⟨w.heap.size, 5, none⟩ = some (.slice (some ⟨p, o, none⟩) ns cs) ∧ x.cell? ⟨w.heap.size + 1, 5, none⟩ = some (.slice (some ⟨p', o', none⟩) ns cs') ∧ x.cell? ⟨p, o + k * 4, none⟩ = some (.int .i64 q.i) ∧ x.cell? ⟨p, o + k * 4 + 1, none⟩ = some (.int .i64 q.l) ∧ x.cell? ⟨p, o + k * 4 + 2, none⟩ = some (.string q.t) ∧ x.cell? ⟨p, o + k * 4 + 3, none⟩ = some (.int .i64 q.u) ∧ x.cell? ⟨p', o' + k * 4, none⟩ = some (.int .i64 q'.i) ∧ x.cell? ⟨p', o' + k * 4 + 1, none⟩ = some (.int .i64 q'.l) ∧ x.cell? ⟨p', o' + k * 4 + 2, none⟩ = some (.string q'.t) ∧ x.cell? ⟨p', o' + k * 4 + 3, none⟩ = some (.int .i64 q'.u) ∧ Below wr.heap.size wr x)) := hidP fun x h =>
                      ⟨(h.cell XL).trans z5, (h.cell YL).trans s5, (h.cell hpw).trans d0, (h.cell hpw).trans d1, (h.cell hpw).trans d2, (h.cell hpw).trans d3, (h.cell hpw').trans g0, (h.cell hpw').trans g1, (h.cell hpw').trans g2, (h.cell hpw').trans g3, h⟩
                    refine wp_region_held_drew (S := (fun x => x.cell? ⟨w.heap.size, 5, none⟩ = some (.slice (some ⟨p, o, none⟩) ns cs) ∧ x.cell? ⟨w.heap.size + 1, 5, none⟩ = some (.slice (some ⟨p', o', none⟩) ns cs') ∧ x.cell? ⟨p, o + k * 4, none⟩ = some (.int .i64 q.i) ∧ x.cell? ⟨p, o + k * 4 + 1, none⟩ = some (.int .i64 q.l) ∧ x.cell? ⟨p, o + k * 4 + 2, none⟩ = some (.string q.t) ∧ x.cell? ⟨p, o + k * 4 + 3, none⟩ = some (.int .i64 q.u) ∧ x.cell? ⟨p', o' + k * 4, none⟩ = some (.int .i64 q'.i) ∧ x.cell? ⟨p', o' + k * 4 + 1, none⟩ = some (.int .i64 q'.l) ∧ x.cell? ⟨p', o' + k * 4 + 2, none⟩ = some (.string q'.t) ∧ x.cell? ⟨p', o' + k * 4 + 3, none⟩ = some (.int .i64 q'.u) ∧ Below wr.heap.size wr x)) (by kernel_rfl) ?_ (fun hHeld => ?_)
                    · try dsimp only
                      exact HSx.out _ ((Below.refl _ _).drew)
                    refine tkA 0 122 (v := ?_) rfl (by kernel_rfl) (fun _ _ _ h => h) (by rfl) ?_ (by assumption) ?_; rotate_left; · (intro w hSw; (try dsimp only at hSw); go_simp; try with_reducible rfl)
                    simp only [pa]
                    refine tkA 1 123 (v := ?_) rfl (by kernel_rfl) (fun _ _ _ h => h) (by rfl) ?_ (by assumption) ?_; rotate_left; · (intro w hSw; (try dsimp only at hSw); go_simp; try with_reducible rfl)
                    simp only [pa]
                    refine tkA 2 124 (v := ?_) rfl (by kernel_rfl) (fun _ _ _ h => h) (by rfl) ?_ (by assumption) ?_; rotate_left; · (intro w hSw; (try dsimp only at hSw); go_simp; try with_reducible rfl)
                    simp only [pa]
                    refine tkA 3 125 (v := ?_) rfl (by kernel_rfl) (fun _ _ _ h => h) (by rfl) ?_ (by assumption) ?_; rotate_left; · (intro w hSw; (try dsimp only at hSw); go_simp; try with_reducible rfl)
                    simp only [pa]
                    refine tkA 4 126 (v := ?_) rfl (by kernel_rfl) (fun _ _ _ h => h) (by rfl) ?_ (by assumption) ?_; rotate_left; · (intro w hSw; (try dsimp only at hSw); go_simp; try with_reducible rfl)
                    simp only [pa]
                    refine tkA 5 127 (v := ?_) rfl (by kernel_rfl) (fun _ _ _ h => h) (by rfl) ?_ (by assumption) ?_; rotate_left; · (intro w hSw; (try dsimp only at hSw); go_simp; try with_reducible rfl)
                    simp only [pa]
                    refine tkA 6 128 (v := ?_) rfl (by kernel_rfl) (fun _ _ _ h => h) (by rfl) ?_ (by assumption) ?_; rotate_left; · (intro w hSw; (try dsimp only at hSw); go_simp; try with_reducible rfl)
                    simp only [pa]
                    refine tkA 7 129 (v := ?_) rfl (by kernel_rfl) (fun _ _ _ h => h) (by rfl) ?_ (by assumption) ?_; rotate_left; · (intro w hSw; (try dsimp only at hSw); go_simp; try with_reducible rfl)
                    simp only [pa]
                    refine tkA 8 130 (v := ?_) rfl (by kernel_rfl) (fun _ _ _ h => h) (by rfl) ?_ (by assumption) ?_; rotate_left; · (intro w hSw; (try dsimp only at hSw); go_simp; try with_reducible rfl)
                    simp only [pa]
                    refine tkA 9 131 (v := ?_) rfl (by kernel_rfl) (fun _ _ _ h => h) (by rfl) ?_ (by assumption) ?_; rotate_left; · (intro w hSw; (try dsimp only at hSw); go_simp; try with_reducible rfl)
                    simp only [pa]
                    refine tkA 10 132 (v := ?_) rfl (by kernel_rfl) (fun _ _ _ h => h) (by rfl) ?_ (by assumption) ?_; rotate_left; · (intro w hSw; (try dsimp only at hSw); go_simp; try with_reducible rfl)
                    simp only [pa]
                    refine tkA 11 133 (v := ?_) rfl (by kernel_rfl) (fun _ _ _ h => h) (by rfl) ?_ (by assumption) ?_; rotate_left; · (intro w hSw; (try dsimp only at hSw); go_simp; try with_reducible rfl)
                    simp only [pa]
                    refine tkA 12 134 (v := ?_) rfl (by kernel_rfl) (fun _ _ _ h => h) (by rfl) ?_ (by assumption) ?_; rotate_left; · (intro w hSw; (try dsimp only at hSw); go_simp; try with_reducible rfl)
                    simp only [pa]
                    have HE := hidP (hHeld.2.2.2.2.2.2.2.2.2.2)
                    refine wpAnyH_done (by kernel_rfl) ?_ _
                    clear hHeld
                    go_wp2_with fail
                    go_roundw
                    case rel => exact ⟨k + 1, by omega, by go_num, by rw [HPo.out]; rfl, HBel.out.trans (HE.out.mono HBel.out.size)⟩
                    case measure => simp [intOf]; omega
                · have HTs : Hid (eqlB eqSsB ss ss' = true) := hidP (by rw [hpo, eqlB_end (by have := HNs.out; omega) (by have := HMs.out; omega)])
                  have gk : decide ((k : Int) < (ns : Int)) = false := decide_eq_false (by omega)
                  have HBs := HBel
                  clear hbel hpo HBel
                  clear ax0 bx0 ax1 bx1 ax2 bx2 ax3 bx3 ax4 bx4 ax5 bx5 ax6 bx6 ax7 bx7
                  cases hC : (C == C')
                  · go_wp2_with fail
                    go_ret
                    exact ⟨ret_b (by unfold sameB; rw [HTp.out, HTb.out, HTl.out, HTs.out]; simp [hC]), AC.out.trans (HBs.out.mono AC.out.size)⟩
                  · have hCt := hC
                    cases hT : (T == T')
                    · go_wp2_with fail
                      go_ret
                      exact ⟨ret_b (by unfold sameB; rw [HTp.out, HTb.out, HTl.out, HTs.out]; simp [hT]), AC.out.trans (HBs.out.mono AC.out.size)⟩
                    · have hTt := hT
                      cases hN : (N == N')
                      · go_wp2_with fail
                        go_ret
                        exact ⟨ret_b (by unfold sameB; rw [HTp.out, HTb.out, HTl.out, HTs.out]; simp [hN]), AC.out.trans (HBs.out.mono AC.out.size)⟩
                      · have hNt := hN
                        cases hX : (X == X')
                        · go_wp2_with fail
                          go_ret
                          exact ⟨ret_b (by unfold sameB; rw [HTp.out, HTb.out, HTl.out, HTs.out]; simp [hX]), AC.out.trans (HBs.out.mono AC.out.size)⟩
                        · go_wp2_with fail
                          go_ret
                          exact ⟨ret_b (by unfold sameB; rw [HTp.out, HTb.out, HTl.out, HTs.out]; simp [hC, hT, hN, hX]), AC.out.trans (HBs.out.mono AC.out.size)⟩

end Go.Proofs.Ytngcbhbcocnbeaa
namespace Go.Proofs.Ytngcbhbcocnbeaa
open Go.ChangeShapes Go.WideShapes Go.ChangeAt Go.RowKit Go.Joins Go.Deep

def szL (t l : Int) : Int := if t ≤ l then l - t else -1
theorem szL_yes {t l : Int} (h : t ≤ l) : szL t l = l - t := by unfold szL; rw [if_pos h]
theorem szL_no {t l : Int} (h : ¬ t ≤ l) : szL t l = -1 := by unfold szL; rw [if_neg h]
set_option maxHeartbeats 1000000 in
theorem szPlan_at (ap : Option Addr) (np cp : Nat) (ab : Option Addr) (nb cb : Nat) (ps : List Pl) (bs : List Bk) (l : Int) (h0 : 0 ≤ l) (h1 : l ≤ 1048576) (w : World) (hnp : np = ps.length) (hnb : nb = bs.length) (hK : RowG KBk w ab bs) (h9 : np ≤ 9223372036854775807) (h9' : nb ≤ 9223372036854775807) (hst : ∀ q ∈ bs, q.t.size ≤ 9223372036854775807) :
    Calls Try.prog 9 #[.agg #[.slice ap np cp, .slice ab nb cb], .int .i64 l] w fun e w' => e = .returned (.int .i64 (szL (totP ps bs) l)) ∧ Below w.heap.size w w' := by
  unfold totP
  rw [← hnp, ← hnb]
  by_cases hl : (np : Int) ≤ l
  · have HP := hidP (szPoolS_any ap np cp l hl h1)
    have HBk := hidP (fun W h => szBlockS_any ab nb cb bs (l - np) (by omega) (by omega) W hnb (hK.later h) h9' hst)
    have hz0 : ¬ (l - (np : Int) < 0) := by omega
    have hz1 : decide (l - (np : Int) < 0) = false := decide_eq_false hz0
    clear hK hnp hnb hst
    by_cases ht : (nb : Int) + (sumT bs : Int) ≤ l - np
    · rw [szB_yes ht] at HBk
      rw [szL_yes (by omega)]
      have hz2 : decide (l - (np : Int) - (nb : Int) - (sumT bs : Int) < 0) = false := decide_eq_false (by omega)
      generalize he : (l - (np : Int) - (nb : Int) - (sumT bs : Int)) = z at *
      have hz3 : ¬ z < 0 := by omega
      have HE := hidP he
      clear he
      go_enter Try.func9, Try.ntmps9
      go_wp2_with fail
      obtain ⟨u0, u1⟩ := box2 (u := .slice ap np cp) (v := .slice ab nb cb) w 25
      have uB := alloc_below w (.cells #[.slice ap np cp, .slice ab nb cb] 25)
      have uL := alloc_lt w (.cells #[.slice ap np cp, .slice ab nb cb] 25)
      have uS : (w.alloc (.cells #[.slice ap np cp, .slice ab nb cb] 25)).heap.size = w.heap.size + 1 := by simp
      generalize w.alloc (.cells #[.slice ap np cp, .slice ab nb cb] 25) = W1 at *
      have HU := hidP uB
      refine (HP.out _).mono ?_
      rintro e w1 ⟨rfl, rfl⟩
      clear uB uS
      go_wp2_with fail
      refine (HBk.out _ HU.out).mono ?_
      rintro e w2 ⟨rfl, hb2⟩
      have HB2 := hidP hb2
      clear hb2
      go_wp2_with fail
      go_ret
      exact ⟨ret_i (by have := HE.out; omega), HU.out.trans (HB2.out.mono HU.out.size)⟩
    · rw [szB_no ht] at HBk
      rw [szL_no (by omega)]
      go_enter Try.func9, Try.ntmps9
      go_wp2_with fail
      obtain ⟨u0, u1⟩ := box2 (u := .slice ap np cp) (v := .slice ab nb cb) w 25
      have uB := alloc_below w (.cells #[.slice ap np cp, .slice ab nb cb] 25)
      have uL := alloc_lt w (.cells #[.slice ap np cp, .slice ab nb cb] 25)
      have uS : (w.alloc (.cells #[.slice ap np cp, .slice ab nb cb] 25)).heap.size = w.heap.size + 1 := by simp
      generalize w.alloc (.cells #[.slice ap np cp, .slice ab nb cb] 25) = W1 at *
      have HU := hidP uB
      refine (HP.out _).mono ?_
      rintro e w1 ⟨rfl, rfl⟩
      clear uB uS
      go_wp2_with fail
      refine (HBk.out _ HU.out).mono ?_
      rintro e w2 ⟨rfl, hb2⟩
      have HB2 := hidP hb2
      clear hb2
      go_wp2_with fail
      go_ret
      exact ⟨rfl, HU.out.trans (HB2.out.mono HU.out.size)⟩
  · have HP := hidP (szPoolS_big ap np cp l (by omega) (by omega) h9)
    rw [szL_no (by omega)]
    clear hK hnp hnb hst
    go_enter Try.func9, Try.ntmps9
    go_wp2_with fail
    refine (HP.out _).mono ?_
    rintro e w1 ⟨rfl, rfl⟩
    go_wp2_with fail
    go_ret
    exact ⟨rfl, (Below.refl _ _).alloc (Nat.le_refl _) _⟩


set_option maxRecDepth 10000 in
set_option maxHeartbeats 2000000 in
theorem szState_at (ap : Option Addr) (np cp : Nat) (ab : Option Addr) (nb cb : Nat) (al : Option Addr) (nl cl : Nat) (T N : Int) (aS : Option Addr) (ns cs : Nat) (X C : Int) (ps : List Pl) (bs : List Bk) (ls : List Ls) (ss : List Ss) (l : Int) (h0 : 0 ≤ l) (h1 : l ≤ 1048576) (w : World) (hnp : np = ps.length) (hnb : nb = bs.length) (hnl : nl = ls.length) (hns : ns = ss.length) (hK : RowG KBk w ab bs) (hL : RowG KLs w al ls) (hS : RowG KSs w aS ss) (h9p : np ≤ 9223372036854775807) (h9b : nb ≤ 9223372036854775807) (h9l : nl ≤ 9223372036854775807) (h9s : ns ≤ 9223372036854775807) (hsb : ∀ q ∈ bs, q.t.size ≤ 9223372036854775807) (hsl : ∀ q ∈ ls, q.t.size ≤ 9223372036854775807) (hss : ∀ q ∈ ss, q.t.size ≤ 9223372036854775807) :
    Calls Try.prog 4 #[.agg #[.slice ap np cp, .slice ab nb cb, .slice al nl cl, .int .i64 T, .int .i64 N, .slice aS ns cs, .int .i64 X, .int .i64 C], .int .i64 l] w fun e w' => e = .returned (.int .i64 (szL (totS ps bs ls ss) l)) ∧ Below w.heap.size w w' := by
  have HP := hidP (fun W h => szPlan_at ap np cp ab nb cb ps bs l h0 h1 W hnp hnb (hK.later h) h9p h9b hsb)
  have HB := hidP (fun l h0 h1 W h => szBook_at al nl cl T N ls l h0 h1 W hnl (hL.later h) h9l hsl)
  have HD := hidP (fun l h0 h1 W h => szDesk_at aS ns cs X ss l h0 h1 W hns (hS.later h) h9s hss)
  have e1 : totB ls = (ls.length : Int) + (sumL ls : Int) := rfl
  have e2 : totD ss = (ss.length : Int) + (sumS ss : Int) := rfl
  have n1 := totP_nn ps bs
  unfold totS
  clear hK hL hS hnp hnb hnl hns hsb hsl hss
  by_cases ht : totP ps bs ≤ l
  · rw [szL_yes ht] at HP
    have d1 : decide (l - totP ps bs < 0) = false := decide_eq_false (by omega)
    by_cases hb : (ls.length : Int) + (sumL ls : Int) ≤ l - totP ps bs
    · have HB1 := hidP (fun W h => HB.out (l - totP ps bs) (by omega) (by omega) W h)
      rw [szB_yes hb] at HB1
      have d2 : decide (l - totP ps bs - (ls.length : Int) - (sumL ls : Int) < 0) = false := decide_eq_false (by omega)
      have HD1 := hidP (fun W h => HD.out (l - totP ps bs - (ls.length : Int) - (sumL ls : Int)) (by omega) (by omega) W h)
      have n3 : ¬ (l - totP ps bs < 0) := by omega
      have n4 : ¬ (l - totP ps bs - (ls.length : Int) - (sumL ls : Int) < 0) := by omega
      by_cases hd : (ss.length : Int) + (sumS ss : Int) ≤ l - totP ps bs - (ls.length : Int) - (sumL ls : Int)
      · rw [szB_yes hd] at HD1
        rw [szL_yes (by omega)]
        have d3 : decide (l - totP ps bs - (ls.length : Int) - (sumL ls : Int) - (ss.length : Int) - (sumS ss : Int) < 0) = false := decide_eq_false (by omega)
        have n5 : ¬ (l - totP ps bs - (ls.length : Int) - (sumL ls : Int) - (ss.length : Int) - (sumS ss : Int) < 0) := by omega
        have HE := hidP (show l - totP ps bs - (ls.length : Int) - (sumL ls : Int) - (ss.length : Int) - (sumS ss : Int) = l - (totP ps bs + totB ls + totD ss) by omega)
        generalize l - totP ps bs - (ls.length : Int) - (sumL ls : Int) - (ss.length : Int) - (sumS ss : Int) = z3 at *
        generalize l - totP ps bs - (ls.length : Int) - (sumL ls : Int) = z2 at *
        generalize l - totP ps bs = z1 at *
        clear HB HD
        go_enter Try.func4, Try.ntmps4
        go_wp2_with fail
        obtain ⟨bx0_W1, bx1_W1, bx2_W1, bx3_W1, bx4_W1, bx5_W1, bx6_W1, bx7_W1⟩ := bx8 w 33 (.slice ap np cp) (.slice ab nb cb) (.slice al nl cl) (.int .i64 T) (.int .i64 N) (.slice aS ns cs) (.int .i64 X) (.int .i64 C)
        have bxF_W1 : ∀ o, (w.alloc (.cells #[.slice ap np cp, .slice ab nb cb, .slice al nl cl, .int .i64 T, .int .i64 N, .slice aS ns cs, .int .i64 X, .int .i64 C] 33)).frozen? ⟨w.heap.size, o, none⟩ = false := fun o => by simp [go_sem]
        have bxL_W1 : w.heap.size < (w.alloc (.cells #[.slice ap np cp, .slice ab nb cb, .slice al nl cl, .int .i64 T, .int .i64 N, .slice aS ns cs, .int .i64 X, .int .i64 C] 33)).heap.size := by simp
        have ab_W1 := alloc_below w (.cells #[.slice ap np cp, .slice ab nb cb, .slice al nl cl, .int .i64 T, .int .i64 N, .slice aS ns cs, .int .i64 X, .int .i64 C] 33)
        have as_W1 : Hid ((w.alloc (.cells #[.slice ap np cp, .slice ab nb cb, .slice al nl cl, .int .i64 T, .int .i64 N, .slice aS ns cs, .int .i64 X, .int .i64 C] 33)).heap.size = w.heap.size + 1) := hidP (by simp)
        generalize w.alloc (.cells #[.slice ap np cp, .slice ab nb cb, .slice al nl cl, .int .i64 T, .int .i64 N, .slice aS ns cs, .int .i64 X, .int .i64 C] 33) = W1 at *
        have acc_W1 := hidP (ab_W1)
        have sz_W1 : Hid (w.heap.size ≤ W1.heap.size) := hidP ab_W1.size
        clear ab_W1 
        refine (HP.out _ acc_W1.out).mono ?_
        rintro e u0 ⟨rfl, hb0⟩
        have bx0_u0 := (hb0.cell bxL_W1).trans bx0_W1
        have bx1_u0 := (hb0.cell bxL_W1).trans bx1_W1
        have bx2_u0 := (hb0.cell bxL_W1).trans bx2_W1
        have bx3_u0 := (hb0.cell bxL_W1).trans bx3_W1
        have bx4_u0 := (hb0.cell bxL_W1).trans bx4_W1
        have bx5_u0 := (hb0.cell bxL_W1).trans bx5_W1
        have bx6_u0 := (hb0.cell bxL_W1).trans bx6_W1
        have bx7_u0 := (hb0.cell bxL_W1).trans bx7_W1
        have bxF_u0 : ∀ o, u0.frozen? ⟨w.heap.size, o, none⟩ = false := fun o => (hb0.frozen bxL_W1).trans (bxF_W1 o)
        have bxL_u0 : w.heap.size < u0.heap.size := Nat.lt_of_lt_of_le bxL_W1 hb0.size
        have acc_u0 := hidP (acc_W1.out.trans (hb0.mono acc_W1.out.size))
        have sz_u0 : Hid (W1.heap.size ≤ u0.heap.size) := hidP hb0.size
        clear hb0 bx0_W1 bx1_W1 bx2_W1 bx3_W1 bx4_W1 bx5_W1 bx6_W1 bx7_W1 bxF_W1 bxL_W1 acc_W1
        go_wp2_with fail
        refine (HB1.out _ acc_u0.out).mono ?_
        rintro e u1 ⟨rfl, hb1⟩
        have bx0_u1 := (hb1.cell bxL_u0).trans bx0_u0
        have bx1_u1 := (hb1.cell bxL_u0).trans bx1_u0
        have bx2_u1 := (hb1.cell bxL_u0).trans bx2_u0
        have bx3_u1 := (hb1.cell bxL_u0).trans bx3_u0
        have bx4_u1 := (hb1.cell bxL_u0).trans bx4_u0
        have bx5_u1 := (hb1.cell bxL_u0).trans bx5_u0
        have bx6_u1 := (hb1.cell bxL_u0).trans bx6_u0
        have bx7_u1 := (hb1.cell bxL_u0).trans bx7_u0
        have bxF_u1 : ∀ o, u1.frozen? ⟨w.heap.size, o, none⟩ = false := fun o => (hb1.frozen bxL_u0).trans (bxF_u0 o)
        have bxL_u1 : w.heap.size < u1.heap.size := Nat.lt_of_lt_of_le bxL_u0 hb1.size
        have acc_u1 := hidP (acc_u0.out.trans (hb1.mono acc_u0.out.size))
        have sz_u1 : Hid (u0.heap.size ≤ u1.heap.size) := hidP hb1.size
        clear hb1 bx0_u0 bx1_u0 bx2_u0 bx3_u0 bx4_u0 bx5_u0 bx6_u0 bx7_u0 bxF_u0 bxL_u0 acc_u0
        go_wp2_with fail
        refine (HD1.out _ acc_u1.out).mono ?_
        rintro e u2 ⟨rfl, hb2⟩
        have bx0_u2 := (hb2.cell bxL_u1).trans bx0_u1
        have bx1_u2 := (hb2.cell bxL_u1).trans bx1_u1
        have bx2_u2 := (hb2.cell bxL_u1).trans bx2_u1
        have bx3_u2 := (hb2.cell bxL_u1).trans bx3_u1
        have bx4_u2 := (hb2.cell bxL_u1).trans bx4_u1
        have bx5_u2 := (hb2.cell bxL_u1).trans bx5_u1
        have bx6_u2 := (hb2.cell bxL_u1).trans bx6_u1
        have bx7_u2 := (hb2.cell bxL_u1).trans bx7_u1
        have bxF_u2 : ∀ o, u2.frozen? ⟨w.heap.size, o, none⟩ = false := fun o => (hb2.frozen bxL_u1).trans (bxF_u1 o)
        have bxL_u2 : w.heap.size < u2.heap.size := Nat.lt_of_lt_of_le bxL_u1 hb2.size
        have acc_u2 := hidP (acc_u1.out.trans (hb2.mono acc_u1.out.size))
        have sz_u2 : Hid (u1.heap.size ≤ u2.heap.size) := hidP hb2.size
        clear hb2 bx0_u1 bx1_u1 bx2_u1 bx3_u1 bx4_u1 bx5_u1 bx6_u1 bx7_u1 bxF_u1 bxL_u1 acc_u1
        go_wp2_with fail
        go_ret
        exact ⟨ret_i HE.out, acc_u2.out⟩
      · rw [szB_no hd] at HD1
        rw [szL_no (by omega)]
        generalize l - totP ps bs - (ls.length : Int) - (sumL ls : Int) = z2 at *
        generalize l - totP ps bs = z1 at *
        clear HB HD
        go_enter Try.func4, Try.ntmps4
        go_wp2_with fail
        obtain ⟨bx0_W1, bx1_W1, bx2_W1, bx3_W1, bx4_W1, bx5_W1, bx6_W1, bx7_W1⟩ := bx8 w 33 (.slice ap np cp) (.slice ab nb cb) (.slice al nl cl) (.int .i64 T) (.int .i64 N) (.slice aS ns cs) (.int .i64 X) (.int .i64 C)
        have bxF_W1 : ∀ o, (w.alloc (.cells #[.slice ap np cp, .slice ab nb cb, .slice al nl cl, .int .i64 T, .int .i64 N, .slice aS ns cs, .int .i64 X, .int .i64 C] 33)).frozen? ⟨w.heap.size, o, none⟩ = false := fun o => by simp [go_sem]
        have bxL_W1 : w.heap.size < (w.alloc (.cells #[.slice ap np cp, .slice ab nb cb, .slice al nl cl, .int .i64 T, .int .i64 N, .slice aS ns cs, .int .i64 X, .int .i64 C] 33)).heap.size := by simp
        have ab_W1 := alloc_below w (.cells #[.slice ap np cp, .slice ab nb cb, .slice al nl cl, .int .i64 T, .int .i64 N, .slice aS ns cs, .int .i64 X, .int .i64 C] 33)
        have as_W1 : Hid ((w.alloc (.cells #[.slice ap np cp, .slice ab nb cb, .slice al nl cl, .int .i64 T, .int .i64 N, .slice aS ns cs, .int .i64 X, .int .i64 C] 33)).heap.size = w.heap.size + 1) := hidP (by simp)
        generalize w.alloc (.cells #[.slice ap np cp, .slice ab nb cb, .slice al nl cl, .int .i64 T, .int .i64 N, .slice aS ns cs, .int .i64 X, .int .i64 C] 33) = W1 at *
        have acc_W1 := hidP (ab_W1)
        have sz_W1 : Hid (w.heap.size ≤ W1.heap.size) := hidP ab_W1.size
        clear ab_W1 
        refine (HP.out _ acc_W1.out).mono ?_
        rintro e u0 ⟨rfl, hb0⟩
        have bx0_u0 := (hb0.cell bxL_W1).trans bx0_W1
        have bx1_u0 := (hb0.cell bxL_W1).trans bx1_W1
        have bx2_u0 := (hb0.cell bxL_W1).trans bx2_W1
        have bx3_u0 := (hb0.cell bxL_W1).trans bx3_W1
        have bx4_u0 := (hb0.cell bxL_W1).trans bx4_W1
        have bx5_u0 := (hb0.cell bxL_W1).trans bx5_W1
        have bx6_u0 := (hb0.cell bxL_W1).trans bx6_W1
        have bx7_u0 := (hb0.cell bxL_W1).trans bx7_W1
        have bxF_u0 : ∀ o, u0.frozen? ⟨w.heap.size, o, none⟩ = false := fun o => (hb0.frozen bxL_W1).trans (bxF_W1 o)
        have bxL_u0 : w.heap.size < u0.heap.size := Nat.lt_of_lt_of_le bxL_W1 hb0.size
        have acc_u0 := hidP (acc_W1.out.trans (hb0.mono acc_W1.out.size))
        have sz_u0 : Hid (W1.heap.size ≤ u0.heap.size) := hidP hb0.size
        clear hb0 bx0_W1 bx1_W1 bx2_W1 bx3_W1 bx4_W1 bx5_W1 bx6_W1 bx7_W1 bxF_W1 bxL_W1 acc_W1
        go_wp2_with fail
        refine (HB1.out _ acc_u0.out).mono ?_
        rintro e u1 ⟨rfl, hb1⟩
        have bx0_u1 := (hb1.cell bxL_u0).trans bx0_u0
        have bx1_u1 := (hb1.cell bxL_u0).trans bx1_u0
        have bx2_u1 := (hb1.cell bxL_u0).trans bx2_u0
        have bx3_u1 := (hb1.cell bxL_u0).trans bx3_u0
        have bx4_u1 := (hb1.cell bxL_u0).trans bx4_u0
        have bx5_u1 := (hb1.cell bxL_u0).trans bx5_u0
        have bx6_u1 := (hb1.cell bxL_u0).trans bx6_u0
        have bx7_u1 := (hb1.cell bxL_u0).trans bx7_u0
        have bxF_u1 : ∀ o, u1.frozen? ⟨w.heap.size, o, none⟩ = false := fun o => (hb1.frozen bxL_u0).trans (bxF_u0 o)
        have bxL_u1 : w.heap.size < u1.heap.size := Nat.lt_of_lt_of_le bxL_u0 hb1.size
        have acc_u1 := hidP (acc_u0.out.trans (hb1.mono acc_u0.out.size))
        have sz_u1 : Hid (u0.heap.size ≤ u1.heap.size) := hidP hb1.size
        clear hb1 bx0_u0 bx1_u0 bx2_u0 bx3_u0 bx4_u0 bx5_u0 bx6_u0 bx7_u0 bxF_u0 bxL_u0 acc_u0
        go_wp2_with fail
        refine (HD1.out _ acc_u1.out).mono ?_
        rintro e u2 ⟨rfl, hb2⟩
        have bx0_u2 := (hb2.cell bxL_u1).trans bx0_u1
        have bx1_u2 := (hb2.cell bxL_u1).trans bx1_u1
        have bx2_u2 := (hb2.cell bxL_u1).trans bx2_u1
        have bx3_u2 := (hb2.cell bxL_u1).trans bx3_u1
        have bx4_u2 := (hb2.cell bxL_u1).trans bx4_u1
        have bx5_u2 := (hb2.cell bxL_u1).trans bx5_u1
        have bx6_u2 := (hb2.cell bxL_u1).trans bx6_u1
        have bx7_u2 := (hb2.cell bxL_u1).trans bx7_u1
        have bxF_u2 : ∀ o, u2.frozen? ⟨w.heap.size, o, none⟩ = false := fun o => (hb2.frozen bxL_u1).trans (bxF_u1 o)
        have bxL_u2 : w.heap.size < u2.heap.size := Nat.lt_of_lt_of_le bxL_u1 hb2.size
        have acc_u2 := hidP (acc_u1.out.trans (hb2.mono acc_u1.out.size))
        have sz_u2 : Hid (u1.heap.size ≤ u2.heap.size) := hidP hb2.size
        clear hb2 bx0_u1 bx1_u1 bx2_u1 bx3_u1 bx4_u1 bx5_u1 bx6_u1 bx7_u1 bxF_u1 bxL_u1 acc_u1
        go_wp2_with fail
        go_ret
        exact ⟨rfl, acc_u2.out⟩
    · have HB1 := hidP (fun W h => HB.out (l - totP ps bs) (by omega) (by omega) W h)
      rw [szB_no hb] at HB1
      have n2 := totD_nn ss
      rw [szL_no (by omega)]
      have n3 : ¬ (l - totP ps bs < 0) := by omega
      generalize l - totP ps bs = z1 at *
      clear HB HD
      go_enter Try.func4, Try.ntmps4
      go_wp2_with fail
      obtain ⟨bx0_W1, bx1_W1, bx2_W1, bx3_W1, bx4_W1, bx5_W1, bx6_W1, bx7_W1⟩ := bx8 w 33 (.slice ap np cp) (.slice ab nb cb) (.slice al nl cl) (.int .i64 T) (.int .i64 N) (.slice aS ns cs) (.int .i64 X) (.int .i64 C)
      have bxF_W1 : ∀ o, (w.alloc (.cells #[.slice ap np cp, .slice ab nb cb, .slice al nl cl, .int .i64 T, .int .i64 N, .slice aS ns cs, .int .i64 X, .int .i64 C] 33)).frozen? ⟨w.heap.size, o, none⟩ = false := fun o => by simp [go_sem]
      have bxL_W1 : w.heap.size < (w.alloc (.cells #[.slice ap np cp, .slice ab nb cb, .slice al nl cl, .int .i64 T, .int .i64 N, .slice aS ns cs, .int .i64 X, .int .i64 C] 33)).heap.size := by simp
      have ab_W1 := alloc_below w (.cells #[.slice ap np cp, .slice ab nb cb, .slice al nl cl, .int .i64 T, .int .i64 N, .slice aS ns cs, .int .i64 X, .int .i64 C] 33)
      have as_W1 : Hid ((w.alloc (.cells #[.slice ap np cp, .slice ab nb cb, .slice al nl cl, .int .i64 T, .int .i64 N, .slice aS ns cs, .int .i64 X, .int .i64 C] 33)).heap.size = w.heap.size + 1) := hidP (by simp)
      generalize w.alloc (.cells #[.slice ap np cp, .slice ab nb cb, .slice al nl cl, .int .i64 T, .int .i64 N, .slice aS ns cs, .int .i64 X, .int .i64 C] 33) = W1 at *
      have acc_W1 := hidP (ab_W1)
      have sz_W1 : Hid (w.heap.size ≤ W1.heap.size) := hidP ab_W1.size
      clear ab_W1 
      refine (HP.out _ acc_W1.out).mono ?_
      rintro e u0 ⟨rfl, hb0⟩
      have bx0_u0 := (hb0.cell bxL_W1).trans bx0_W1
      have bx1_u0 := (hb0.cell bxL_W1).trans bx1_W1
      have bx2_u0 := (hb0.cell bxL_W1).trans bx2_W1
      have bx3_u0 := (hb0.cell bxL_W1).trans bx3_W1
      have bx4_u0 := (hb0.cell bxL_W1).trans bx4_W1
      have bx5_u0 := (hb0.cell bxL_W1).trans bx5_W1
      have bx6_u0 := (hb0.cell bxL_W1).trans bx6_W1
      have bx7_u0 := (hb0.cell bxL_W1).trans bx7_W1
      have bxF_u0 : ∀ o, u0.frozen? ⟨w.heap.size, o, none⟩ = false := fun o => (hb0.frozen bxL_W1).trans (bxF_W1 o)
      have bxL_u0 : w.heap.size < u0.heap.size := Nat.lt_of_lt_of_le bxL_W1 hb0.size
      have acc_u0 := hidP (acc_W1.out.trans (hb0.mono acc_W1.out.size))
      have sz_u0 : Hid (W1.heap.size ≤ u0.heap.size) := hidP hb0.size
      clear hb0 bx0_W1 bx1_W1 bx2_W1 bx3_W1 bx4_W1 bx5_W1 bx6_W1 bx7_W1 bxF_W1 bxL_W1 acc_W1
      go_wp2_with fail
      refine (HB1.out _ acc_u0.out).mono ?_
      rintro e u1 ⟨rfl, hb1⟩
      have bx0_u1 := (hb1.cell bxL_u0).trans bx0_u0
      have bx1_u1 := (hb1.cell bxL_u0).trans bx1_u0
      have bx2_u1 := (hb1.cell bxL_u0).trans bx2_u0
      have bx3_u1 := (hb1.cell bxL_u0).trans bx3_u0
      have bx4_u1 := (hb1.cell bxL_u0).trans bx4_u0
      have bx5_u1 := (hb1.cell bxL_u0).trans bx5_u0
      have bx6_u1 := (hb1.cell bxL_u0).trans bx6_u0
      have bx7_u1 := (hb1.cell bxL_u0).trans bx7_u0
      have bxF_u1 : ∀ o, u1.frozen? ⟨w.heap.size, o, none⟩ = false := fun o => (hb1.frozen bxL_u0).trans (bxF_u0 o)
      have bxL_u1 : w.heap.size < u1.heap.size := Nat.lt_of_lt_of_le bxL_u0 hb1.size
      have acc_u1 := hidP (acc_u0.out.trans (hb1.mono acc_u0.out.size))
      have sz_u1 : Hid (u0.heap.size ≤ u1.heap.size) := hidP hb1.size
      clear hb1 bx0_u0 bx1_u0 bx2_u0 bx3_u0 bx4_u0 bx5_u0 bx6_u0 bx7_u0 bxF_u0 bxL_u0 acc_u0
      go_wp2_with fail
      go_ret
      exact ⟨rfl, acc_u1.out⟩
  · rw [szL_no ht] at HP
    have n2 := totD_nn ss
    have n3 := totB_nn ls
    rw [szL_no (by omega)]
    clear HB HD
    go_enter Try.func4, Try.ntmps4
    go_wp2_with fail
    obtain ⟨bx0_W1, bx1_W1, bx2_W1, bx3_W1, bx4_W1, bx5_W1, bx6_W1, bx7_W1⟩ := bx8 w 33 (.slice ap np cp) (.slice ab nb cb) (.slice al nl cl) (.int .i64 T) (.int .i64 N) (.slice aS ns cs) (.int .i64 X) (.int .i64 C)
    have bxF_W1 : ∀ o, (w.alloc (.cells #[.slice ap np cp, .slice ab nb cb, .slice al nl cl, .int .i64 T, .int .i64 N, .slice aS ns cs, .int .i64 X, .int .i64 C] 33)).frozen? ⟨w.heap.size, o, none⟩ = false := fun o => by simp [go_sem]
    have bxL_W1 : w.heap.size < (w.alloc (.cells #[.slice ap np cp, .slice ab nb cb, .slice al nl cl, .int .i64 T, .int .i64 N, .slice aS ns cs, .int .i64 X, .int .i64 C] 33)).heap.size := by simp
    have ab_W1 := alloc_below w (.cells #[.slice ap np cp, .slice ab nb cb, .slice al nl cl, .int .i64 T, .int .i64 N, .slice aS ns cs, .int .i64 X, .int .i64 C] 33)
    have as_W1 : Hid ((w.alloc (.cells #[.slice ap np cp, .slice ab nb cb, .slice al nl cl, .int .i64 T, .int .i64 N, .slice aS ns cs, .int .i64 X, .int .i64 C] 33)).heap.size = w.heap.size + 1) := hidP (by simp)
    generalize w.alloc (.cells #[.slice ap np cp, .slice ab nb cb, .slice al nl cl, .int .i64 T, .int .i64 N, .slice aS ns cs, .int .i64 X, .int .i64 C] 33) = W1 at *
    have acc_W1 := hidP (ab_W1)
    have sz_W1 : Hid (w.heap.size ≤ W1.heap.size) := hidP ab_W1.size
    clear ab_W1 
    refine (HP.out _ acc_W1.out).mono ?_
    rintro e u0 ⟨rfl, hb0⟩
    have bx0_u0 := (hb0.cell bxL_W1).trans bx0_W1
    have bx1_u0 := (hb0.cell bxL_W1).trans bx1_W1
    have bx2_u0 := (hb0.cell bxL_W1).trans bx2_W1
    have bx3_u0 := (hb0.cell bxL_W1).trans bx3_W1
    have bx4_u0 := (hb0.cell bxL_W1).trans bx4_W1
    have bx5_u0 := (hb0.cell bxL_W1).trans bx5_W1
    have bx6_u0 := (hb0.cell bxL_W1).trans bx6_W1
    have bx7_u0 := (hb0.cell bxL_W1).trans bx7_W1
    have bxF_u0 : ∀ o, u0.frozen? ⟨w.heap.size, o, none⟩ = false := fun o => (hb0.frozen bxL_W1).trans (bxF_W1 o)
    have bxL_u0 : w.heap.size < u0.heap.size := Nat.lt_of_lt_of_le bxL_W1 hb0.size
    have acc_u0 := hidP (acc_W1.out.trans (hb0.mono acc_W1.out.size))
    have sz_u0 : Hid (W1.heap.size ≤ u0.heap.size) := hidP hb0.size
    clear hb0 bx0_W1 bx1_W1 bx2_W1 bx3_W1 bx4_W1 bx5_W1 bx6_W1 bx7_W1 bxF_W1 bxL_W1 acc_W1
    go_wp2_with fail
    go_ret
    exact ⟨rfl, acc_u0.out⟩

end Go.Proofs.Ytngcbhbcocnbeaa
namespace Go.Proofs.Ytngcbhbcocnbeaa
open Go.ChangeShapes Go.WideShapes Go.ChangeAt Go.RowKit Go.Joins Go.Deep

theorem Try.ownB9 : ownKnob Try.prog.godebug = none := by kernel_rfl
theorem Try.laidOutB9 : laidOutB Try.prog = true := by kernel_rfl
theorem slice_of {H : Type} {enc : TypeId × Value → H} {W : World} {t e : TypeId} {n : Nat} {u : Value} {y : DataW H × List MemPlace} (ht : Try.prog.underlying t = some (.slice e)) (h : DataW.trod enc Try.prog W 0 (fun _ => true) true n t [u] = some y) : ∃ a l c, u = .slice a l c := by
  rcases open_slice ht h with ⟨hcs, _⟩ | ⟨a', len', cap', m, n', D, Plc, hcs, _⟩
  · simp at hcs; exact ⟨_, _, _, hcs⟩
  · simp at hcs; exact ⟨_, _, _, hcs⟩
theorem array8 {α : Type} {cs : Array α} (h : cs.size = 8) : ∃ c0 c1 c2 c3 c4 c5 c6 c7, cs = #[c0, c1, c2, c3, c4, c5, c6, c7] := by
  obtain ⟨l⟩ := cs
  match l, h with
  | [c0, c1, c2, c3, c4, c5, c6, c7], _ => exact ⟨c0, c1, c2, c3, c4, c5, c6, c7, rfl⟩
set_option maxRecDepth 100000 in
set_option maxHeartbeats 1000000 in
theorem openState {H : Type} {enc : TypeId × Value → H} {W : World} {r : Reach} {b0 : Nat} {v : Value} {d : DataW H} {p : List MemPlace} (hv : Value.okWide Try.prog W r b0 33 v)
    (h : DataW.Trod enc Try.prog W 0 (fun _ => true) true 33 v d p) : ∃ (ap : Option Addr) (np cp : Nat) (ab : Option Addr) (nb cb : Nat) (al : Option Addr) (nl cl : Nat) (T N : Int) (aS : Option Addr) (ns cs : Nat) (X C : Int) (ps : List Pl) (bs : List Bk) (ls : List Ls) (ss : List Ss), v = .agg #[.slice ap np cp, .slice ab nb cb, .slice al nl cl, .int .i64 T, .int .i64 N, .slice aS ns cs, .int .i64 X, .int .i64 C] ∧ (np = ps.length ∧ nb = bs.length ∧ nl = ls.length ∧ ns = ss.length) ∧ (RowG KPl W ap ps ∧ RowG KBk W ab bs ∧ RowG KLs W al ls ∧ RowG KSs W aS ss) ∧ (np ≤ 9223372036854775807 ∧ nb ≤ 9223372036854775807 ∧ nl ≤ 9223372036854775807 ∧ ns ≤ 9223372036854775807) ∧ (∀ q ∈ bs, q.t.size ≤ 9223372036854775807) ∧ (∀ q ∈ ls, q.t.size ≤ 9223372036854775807) ∧ (∀ q ∈ ss, q.t.size ≤ 9223372036854775807) := by
  obtain ⟨cs, rfl, hsz⟩ := okWide_struct Try.underlying33 hv
  have hC : Try.prog.cellsOf 33 = 8 := by kernel_rfl
  obtain ⟨c0, c1, c2, c3, c4, c5, c6, c7, rfl⟩ := array8 (hsz.trans hC)
  obtain ⟨fuel, hf⟩ := h
  obtain ⟨xs, n, _, _, _, hlen, hx⟩ := DataW.trod_struct Try.underlying33 hf
  have kP : Try.prog.cellsOf 25 = 2 := by kernel_rfl
  have kB : Try.prog.cellsOf 28 = 3 := by kernel_rfl
  have kD : Try.prog.cellsOf 31 = 2 := by kernel_rfl
  have ki : Try.prog.cellsOf 3 = 1 := by kernel_rfl
  have k1 : Try.prog.cellsOf 22 = 1 := by kernel_rfl
  have k2 : Try.prog.cellsOf 23 = 1 := by kernel_rfl
  have k3 : Try.prog.cellsOf 26 = 1 := by kernel_rfl
  have k4 : Try.prog.cellsOf 29 = 1 := by kernel_rfl
  match xs, hlen with
  | [y0, y1, y2, y3], _ =>
    have f0 := hx 0 _ rfl; have f1 := hx 1 _ rfl; have f2 := hx 2 _ rfl; have f3 := hx 3 _ rfl
    simp [Value.cells, kP, kB, kD, ki] at f0 f1 f2 f3
    obtain ⟨z0, z1, m, _, _, g0, g1⟩ := trod_struct2 Try.underlying25 f0
    simp [k1, k2] at g0 g1
    obtain ⟨u0, u1, u2, m2, _, _, j0, j1, j2⟩ := trod_struct3 Try.underlying28 f1
    simp [k3, ki] at j0 j1 j2
    obtain ⟨w0, w1, m3, _, _, l0, l1⟩ := trod_struct2 Try.underlying31 f2
    simp [k4, ki] at l0 l1
    obtain ⟨ap, np, cp, rfl⟩ := slice_of Try.underlying22 g0
    obtain ⟨ab, nb, cb, rfl⟩ := slice_of Try.underlying23 g1
    obtain ⟨al, nl, cl, rfl⟩ := slice_of Try.underlying26 j0
    obtain ⟨aS, ns, cs, rfl⟩ := slice_of Try.underlying29 l0
    obtain ⟨ps, e1, q1, r1⟩ := openPl (enc := enc) (W := W) (a := ap) (len := np) (cap := cp) (d := z0.1) (p := z0.2) ⟨m, by simpa [Value.cells] using g0⟩
    obtain ⟨bs, e2, q2, r2, s2⟩ := openBk2 (enc := enc) (W := W) (a := ab) (len := nb) (cap := cb) (d := z1.1) (p := z1.2) ⟨m, by simpa [Value.cells] using g1⟩
    obtain ⟨ls, e3, q3, r3, s3⟩ := openLs (enc := enc) (W := W) (a := al) (len := nl) (cap := cl) (d := u0.1) (p := u0.2) ⟨m2, by simpa [Value.cells] using j0⟩
    obtain ⟨ss, e4, q4, r4, s4⟩ := openSs (enc := enc) (W := W) (a := aS) (len := ns) (cap := cs) (d := w0.1) (p := w0.2) ⟨m3, by simpa [Value.cells] using l0⟩
    obtain ⟨T, eT, _, _⟩ := DataW.trod_int Try.underlying3 j1
    obtain ⟨N, eN, _, _⟩ := DataW.trod_int Try.underlying3 j2
    obtain ⟨X, eX, _, _⟩ := DataW.trod_int Try.underlying3 l1
    obtain ⟨C, eC, _, _⟩ := DataW.trod_int Try.underlying3 f3
    simp at eT eN eX eC
    subst eT eN eX eC
    exact ⟨ap, np, cp, ab, nb, cb, al, nl, cl, T, N, aS, ns, cs, X, C, ps, bs, ls, ss, rfl, ⟨e1.symm, e2.symm, e3.symm, e4.symm⟩, ⟨r1, r2, r3, r4⟩, ⟨q1, q2, q3, q4⟩, s2, s3, s4⟩

end Go.Proofs.Ytngcbhbcocnbeaa
