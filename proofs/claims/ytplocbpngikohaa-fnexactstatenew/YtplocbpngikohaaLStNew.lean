/-
  Both StateNew answer the same state, which shares no memory with another call's, so the exact law of StateNew returns true; no condition.
-/
import Derived.Test.YtplocbpngikohaaRows
import Derived.ProofKit
import Derived.Lib.SmallJoins
import Derived.Carry
import Derived.Deep.Slices
import Derived.ChangeMaps5
namespace Go.Proofs.Ytplocbpngikohaa
open Go.ChangeShapes Go.WideShapes Go.ChangeAt Go.RowKit Go.Joins Go.Deep

def Hid (p : Prop) : Prop := p
theorem Hid.out {p : Prop} (h : Hid p) : p := h
theorem hidP {p : Prop} (h : p) : Hid p := h
theorem alloc_below (w : World) (o : Obj) : Below w.heap.size w (w.alloc o) := (Below.refl _ _).alloc (Nat.le_refl _) o
theorem bx2 (w : World) (t : TypeId) (v0 v1 : Value) : (w.alloc (.cells #[v0, v1] t)).cell? ⟨w.heap.size, 0, none⟩ = some v0 ∧ (w.alloc (.cells #[v0, v1] t)).cell? ⟨w.heap.size, 1, none⟩ = some v1 := ⟨by simp [go_sem], by simp [go_sem]⟩
theorem bx3 (w : World) (t : TypeId) (v0 v1 v2 : Value) : (w.alloc (.cells #[v0, v1, v2] t)).cell? ⟨w.heap.size, 0, none⟩ = some v0 ∧ (w.alloc (.cells #[v0, v1, v2] t)).cell? ⟨w.heap.size, 1, none⟩ = some v1 ∧ (w.alloc (.cells #[v0, v1, v2] t)).cell? ⟨w.heap.size, 2, none⟩ = some v2 := ⟨by simp [go_sem], by simp [go_sem], by simp [go_sem]⟩
theorem bx8 (w : World) (t : TypeId) (v0 v1 v2 v3 v4 v5 v6 v7 : Value) : (w.alloc (.cells #[v0, v1, v2, v3, v4, v5, v6, v7] t)).cell? ⟨w.heap.size, 0, none⟩ = some v0 ∧ (w.alloc (.cells #[v0, v1, v2, v3, v4, v5, v6, v7] t)).cell? ⟨w.heap.size, 1, none⟩ = some v1 ∧ (w.alloc (.cells #[v0, v1, v2, v3, v4, v5, v6, v7] t)).cell? ⟨w.heap.size, 2, none⟩ = some v2 ∧ (w.alloc (.cells #[v0, v1, v2, v3, v4, v5, v6, v7] t)).cell? ⟨w.heap.size, 3, none⟩ = some v3 ∧ (w.alloc (.cells #[v0, v1, v2, v3, v4, v5, v6, v7] t)).cell? ⟨w.heap.size, 4, none⟩ = some v4 ∧ (w.alloc (.cells #[v0, v1, v2, v3, v4, v5, v6, v7] t)).cell? ⟨w.heap.size, 5, none⟩ = some v5 ∧ (w.alloc (.cells #[v0, v1, v2, v3, v4, v5, v6, v7] t)).cell? ⟨w.heap.size, 6, none⟩ = some v6 ∧ (w.alloc (.cells #[v0, v1, v2, v3, v4, v5, v6, v7] t)).cell? ⟨w.heap.size, 7, none⟩ = some v7 := ⟨by simp [go_sem], by simp [go_sem], by simp [go_sem], by simp [go_sem], by simp [go_sem], by simp [go_sem], by simp [go_sem], by simp [go_sem]⟩
set_option maxHeartbeats 1000000 in
theorem eqPoolS_nil (w : World) : Calls Try.prog 18 #[.slice none 0 0, .slice none 0 0] w fun e w' => e = .returned (.bool true) ∧ Below w.heap.size w w' := by
  go_enter Try.func18, Try.ntmps18
  go_wp2_with fail
  go_loopw [5] (fun t5 wr => t5 = .int .i64 0 ∧ wr = w) (fun _ _ => 0)
  case atStart => exact ⟨rfl, rfl⟩
  case round =>
    obtain ⟨rfl, rfl⟩ := hrel
    go_wp2_with fail
    go_ret
    exact ⟨rfl, Below.refl _ _⟩

set_option maxHeartbeats 1000000 in
theorem markPoolS_nil (w : World) : Calls Try.prog 22 #[.slice none 0 0, .int .i64 1] w fun e w' => e = .returned (.int .i64 1) ∧ Below w.heap.size w w' := by
  go_enter Try.func22, Try.ntmps22
  go_wp2_with fail
  go_loopw [1, 5] (fun t1 t5 wr => t1 = .int .i64 1 ∧ t5 = .int .i64 0 ∧ wr = w) (fun _ _ _ => 0)
  case atStart => exact ⟨rfl, rfl, rfl⟩
  case round =>
    obtain ⟨rfl, rfl, rfl⟩ := hrel
    go_wp2_with fail
    go_ret
    exact ⟨rfl, Below.refl _ _⟩

set_option maxHeartbeats 1000000 in
theorem heldPoolS_nil (w : World) : Calls Try.prog 26 #[.slice none 0 0, .int .i64 1] w fun e w' => e = .returned (.int .i64 1) ∧ Below w.heap.size w w' := by
  go_enter Try.func26, Try.ntmps26
  go_wp2_with fail
  go_loopw [1, 5] (fun t1 t5 wr => t1 = .int .i64 1 ∧ t5 = .int .i64 0 ∧ wr = w) (fun _ _ _ => 0)
  case atStart => exact ⟨rfl, rfl, rfl⟩
  case round =>
    obtain ⟨rfl, rfl, rfl⟩ := hrel
    go_wp2_with fail
    go_ret
    exact ⟨rfl, Below.refl _ _⟩

set_option maxHeartbeats 1000000 in
theorem eqBlockS_nil (w : World) : Calls Try.prog 19 #[.slice none 0 0, .slice none 0 0] w fun e w' => e = .returned (.bool true) ∧ Below w.heap.size w w' := by
  go_enter Try.func19, Try.ntmps19
  go_wp2_with fail
  go_loopw [5] (fun t5 wr => t5 = .int .i64 0 ∧ wr = w) (fun _ _ => 0)
  case atStart => exact ⟨rfl, rfl⟩
  case round =>
    obtain ⟨rfl, rfl⟩ := hrel
    go_wp2_with fail
    go_ret
    exact ⟨rfl, Below.refl _ _⟩

set_option maxHeartbeats 1000000 in
theorem markBlockS_nil (w : World) : Calls Try.prog 23 #[.slice none 0 0, .int .i64 1] w fun e w' => e = .returned (.int .i64 1) ∧ Below w.heap.size w w' := by
  go_enter Try.func23, Try.ntmps23
  go_wp2_with fail
  go_loopw [1, 5] (fun t1 t5 wr => t1 = .int .i64 1 ∧ t5 = .int .i64 0 ∧ wr = w) (fun _ _ _ => 0)
  case atStart => exact ⟨rfl, rfl, rfl⟩
  case round =>
    obtain ⟨rfl, rfl, rfl⟩ := hrel
    go_wp2_with fail
    go_ret
    exact ⟨rfl, Below.refl _ _⟩

set_option maxHeartbeats 1000000 in
theorem heldBlockS_nil (w : World) : Calls Try.prog 27 #[.slice none 0 0, .int .i64 1] w fun e w' => e = .returned (.int .i64 1) ∧ Below w.heap.size w w' := by
  go_enter Try.func27, Try.ntmps27
  go_wp2_with fail
  go_loopw [1, 5] (fun t1 t5 wr => t1 = .int .i64 1 ∧ t5 = .int .i64 0 ∧ wr = w) (fun _ _ _ => 0)
  case atStart => exact ⟨rfl, rfl, rfl⟩
  case round =>
    obtain ⟨rfl, rfl, rfl⟩ := hrel
    go_wp2_with fail
    go_ret
    exact ⟨rfl, Below.refl _ _⟩

set_option maxHeartbeats 1000000 in
theorem eqLeaseS_nil (w : World) : Calls Try.prog 20 #[.slice none 0 0, .slice none 0 0] w fun e w' => e = .returned (.bool true) ∧ Below w.heap.size w w' := by
  go_enter Try.func20, Try.ntmps20
  go_wp2_with fail
  go_loopw [5] (fun t5 wr => t5 = .int .i64 0 ∧ wr = w) (fun _ _ => 0)
  case atStart => exact ⟨rfl, rfl⟩
  case round =>
    obtain ⟨rfl, rfl⟩ := hrel
    go_wp2_with fail
    go_ret
    exact ⟨rfl, Below.refl _ _⟩

set_option maxHeartbeats 1000000 in
theorem markLeaseS_nil (w : World) : Calls Try.prog 24 #[.slice none 0 0, .int .i64 1] w fun e w' => e = .returned (.int .i64 1) ∧ Below w.heap.size w w' := by
  go_enter Try.func24, Try.ntmps24
  go_wp2_with fail
  go_loopw [1, 5] (fun t1 t5 wr => t1 = .int .i64 1 ∧ t5 = .int .i64 0 ∧ wr = w) (fun _ _ _ => 0)
  case atStart => exact ⟨rfl, rfl, rfl⟩
  case round =>
    obtain ⟨rfl, rfl, rfl⟩ := hrel
    go_wp2_with fail
    go_ret
    exact ⟨rfl, Below.refl _ _⟩

set_option maxHeartbeats 1000000 in
theorem heldLeaseS_nil (w : World) : Calls Try.prog 28 #[.slice none 0 0, .int .i64 1] w fun e w' => e = .returned (.int .i64 1) ∧ Below w.heap.size w w' := by
  go_enter Try.func28, Try.ntmps28
  go_wp2_with fail
  go_loopw [1, 5] (fun t1 t5 wr => t1 = .int .i64 1 ∧ t5 = .int .i64 0 ∧ wr = w) (fun _ _ _ => 0)
  case atStart => exact ⟨rfl, rfl, rfl⟩
  case round =>
    obtain ⟨rfl, rfl, rfl⟩ := hrel
    go_wp2_with fail
    go_ret
    exact ⟨rfl, Below.refl _ _⟩

set_option maxHeartbeats 1000000 in
theorem eqSessionS_nil (w : World) : Calls Try.prog 21 #[.slice none 0 0, .slice none 0 0] w fun e w' => e = .returned (.bool true) ∧ Below w.heap.size w w' := by
  go_enter Try.func21, Try.ntmps21
  go_wp2_with fail
  go_loopw [5] (fun t5 wr => t5 = .int .i64 0 ∧ wr = w) (fun _ _ => 0)
  case atStart => exact ⟨rfl, rfl⟩
  case round =>
    obtain ⟨rfl, rfl⟩ := hrel
    go_wp2_with fail
    go_ret
    exact ⟨rfl, Below.refl _ _⟩

set_option maxHeartbeats 1000000 in
theorem markSessionS_nil (w : World) : Calls Try.prog 25 #[.slice none 0 0, .int .i64 1] w fun e w' => e = .returned (.int .i64 1) ∧ Below w.heap.size w w' := by
  go_enter Try.func25, Try.ntmps25
  go_wp2_with fail
  go_loopw [1, 5] (fun t1 t5 wr => t1 = .int .i64 1 ∧ t5 = .int .i64 0 ∧ wr = w) (fun _ _ _ => 0)
  case atStart => exact ⟨rfl, rfl, rfl⟩
  case round =>
    obtain ⟨rfl, rfl, rfl⟩ := hrel
    go_wp2_with fail
    go_ret
    exact ⟨rfl, Below.refl _ _⟩

set_option maxHeartbeats 1000000 in
theorem heldSessionS_nil (w : World) : Calls Try.prog 29 #[.slice none 0 0, .int .i64 1] w fun e w' => e = .returned (.int .i64 1) ∧ Below w.heap.size w w' := by
  go_enter Try.func29, Try.ntmps29
  go_wp2_with fail
  go_loopw [1, 5] (fun t1 t5 wr => t1 = .int .i64 1 ∧ t5 = .int .i64 0 ∧ wr = w) (fun _ _ _ => 0)
  case atStart => exact ⟨rfl, rfl, rfl⟩
  case round =>
    obtain ⟨rfl, rfl, rfl⟩ := hrel
    go_wp2_with fail
    go_ret
    exact ⟨rfl, Below.refl _ _⟩

set_option maxRecDepth 10000 in
set_option maxHeartbeats 2000000 in
theorem eqPlan_nil (w : World) : Calls Try.prog 9 #[.agg #[.slice none 0 0, .slice none 0 0], .agg #[.slice none 0 0, .slice none 0 0]] w fun e w' => e = .returned (.bool true) ∧ Below w.heap.size w w' := by
  go_enter Try.func9, Try.ntmps9
  go_wp2_with fail
  obtain ⟨ax0_W0, ax1_W0⟩ := bx2 w 25 (.slice none 0 0) (.slice none 0 0)
  have axF_W0 : ∀ o, (w.alloc (.cells #[.slice none 0 0, .slice none 0 0] 25)).frozen? ⟨w.heap.size, o, none⟩ = false := fun o => by simp [go_sem]
  have axL_W0 : w.heap.size < (w.alloc (.cells #[.slice none 0 0, .slice none 0 0] 25)).heap.size := by simp
  have ab_W0 := alloc_below w (.cells #[.slice none 0 0, .slice none 0 0] 25)
  have as_W0 : Hid ((w.alloc (.cells #[.slice none 0 0, .slice none 0 0] 25)).heap.size = w.heap.size + 1) := hidP (by simp)
  generalize w.alloc (.cells #[.slice none 0 0, .slice none 0 0] 25) = W0 at *
  have acc_W0 := hidP (ab_W0)
  have sz_W0 : Hid (w.heap.size ≤ W0.heap.size) := hidP ab_W0.size
  clear ab_W0 
  obtain ⟨bx0_W1, bx1_W1⟩ := bx2 W0 25 (.slice none 0 0) (.slice none 0 0)
  have bxF_W1 : ∀ o, (W0.alloc (.cells #[.slice none 0 0, .slice none 0 0] 25)).frozen? ⟨W0.heap.size, o, none⟩ = false := fun o => by simp [go_sem]
  have bxL_W1 : W0.heap.size < (W0.alloc (.cells #[.slice none 0 0, .slice none 0 0] 25)).heap.size := by simp
  have ab_W1 := alloc_below W0 (.cells #[.slice none 0 0, .slice none 0 0] 25)
  have as_W1 : Hid ((W0.alloc (.cells #[.slice none 0 0, .slice none 0 0] 25)).heap.size = W0.heap.size + 1) := hidP (by simp)
  generalize W0.alloc (.cells #[.slice none 0 0, .slice none 0 0] 25) = W1 at *
  have ax0_W1 := (ab_W1.cell axL_W0).trans ax0_W0
  have ax1_W1 := (ab_W1.cell axL_W0).trans ax1_W0
  have axF_W1 : ∀ o, W1.frozen? ⟨w.heap.size, o, none⟩ = false := fun o => (ab_W1.frozen axL_W0).trans (axF_W0 o)
  have axL_W1 : w.heap.size < W1.heap.size := Nat.lt_of_lt_of_le axL_W0 ab_W1.size
  have acc_W1 := hidP (acc_W0.out.trans (ab_W1.mono acc_W0.out.size))
  have sz_W1 : Hid (W0.heap.size ≤ W1.heap.size) := hidP ab_W1.size
  clear ab_W1 ax0_W0 ax1_W0 axF_W0 axL_W0 acc_W0
  simp only [as_W0.out] at bx0_W1 bx1_W1 bxF_W1 bxL_W1
  refine (eqPoolS_nil _).mono ?_
  rintro e u0 ⟨rfl, hb0⟩
  have ax0_u0 := (hb0.cell axL_W1).trans ax0_W1
  have ax1_u0 := (hb0.cell axL_W1).trans ax1_W1
  have axF_u0 : ∀ o, u0.frozen? ⟨w.heap.size, o, none⟩ = false := fun o => (hb0.frozen axL_W1).trans (axF_W1 o)
  have axL_u0 : w.heap.size < u0.heap.size := Nat.lt_of_lt_of_le axL_W1 hb0.size
  have bx0_u0 := (hb0.cell bxL_W1).trans bx0_W1
  have bx1_u0 := (hb0.cell bxL_W1).trans bx1_W1
  have bxF_u0 : ∀ o, u0.frozen? ⟨(w.heap.size + 1), o, none⟩ = false := fun o => (hb0.frozen bxL_W1).trans (bxF_W1 o)
  have bxL_u0 : (w.heap.size + 1) < u0.heap.size := Nat.lt_of_lt_of_le bxL_W1 hb0.size
  have acc_u0 := hidP (acc_W1.out.trans (hb0.mono acc_W1.out.size))
  have sz_u0 : Hid (W1.heap.size ≤ u0.heap.size) := hidP hb0.size
  clear hb0 ax0_W1 ax1_W1 axF_W1 axL_W1 bx0_W1 bx1_W1 bxF_W1 bxL_W1 acc_W1
  go_wp2_with fail
  refine (eqBlockS_nil _).mono ?_
  rintro e u1 ⟨rfl, hb1⟩
  have ax0_u1 := (hb1.cell axL_u0).trans ax0_u0
  have ax1_u1 := (hb1.cell axL_u0).trans ax1_u0
  have axF_u1 : ∀ o, u1.frozen? ⟨w.heap.size, o, none⟩ = false := fun o => (hb1.frozen axL_u0).trans (axF_u0 o)
  have axL_u1 : w.heap.size < u1.heap.size := Nat.lt_of_lt_of_le axL_u0 hb1.size
  have bx0_u1 := (hb1.cell bxL_u0).trans bx0_u0
  have bx1_u1 := (hb1.cell bxL_u0).trans bx1_u0
  have bxF_u1 : ∀ o, u1.frozen? ⟨(w.heap.size + 1), o, none⟩ = false := fun o => (hb1.frozen bxL_u0).trans (bxF_u0 o)
  have bxL_u1 : (w.heap.size + 1) < u1.heap.size := Nat.lt_of_lt_of_le bxL_u0 hb1.size
  have acc_u1 := hidP (acc_u0.out.trans (hb1.mono acc_u0.out.size))
  have sz_u1 : Hid (u0.heap.size ≤ u1.heap.size) := hidP hb1.size
  clear hb1 ax0_u0 ax1_u0 axF_u0 axL_u0 bx0_u0 bx1_u0 bxF_u0 bxL_u0 acc_u0
  go_wp2_with fail
  go_ret
  exact ⟨rfl, acc_u1.out⟩

set_option maxRecDepth 10000 in
set_option maxHeartbeats 2000000 in
theorem markPlan_nil (w : World) : Calls Try.prog 12 #[.agg #[.slice none 0 0, .slice none 0 0], .int .i64 1] w fun e w' => e = .returned (.int .i64 1) ∧ Below w.heap.size w w' := by
  go_enter Try.func12, Try.ntmps12
  go_wp2_with fail
  obtain ⟨ax0_W0, ax1_W0⟩ := bx2 w 25 (.slice none 0 0) (.slice none 0 0)
  have axF_W0 : ∀ o, (w.alloc (.cells #[.slice none 0 0, .slice none 0 0] 25)).frozen? ⟨w.heap.size, o, none⟩ = false := fun o => by simp [go_sem]
  have axL_W0 : w.heap.size < (w.alloc (.cells #[.slice none 0 0, .slice none 0 0] 25)).heap.size := by simp
  have ab_W0 := alloc_below w (.cells #[.slice none 0 0, .slice none 0 0] 25)
  have as_W0 : Hid ((w.alloc (.cells #[.slice none 0 0, .slice none 0 0] 25)).heap.size = w.heap.size + 1) := hidP (by simp)
  generalize w.alloc (.cells #[.slice none 0 0, .slice none 0 0] 25) = W0 at *
  have acc_W0 := hidP (ab_W0)
  have sz_W0 : Hid (w.heap.size ≤ W0.heap.size) := hidP ab_W0.size
  clear ab_W0 
  refine (markPoolS_nil _).mono ?_
  rintro e u0 ⟨rfl, hb0⟩
  have ax0_u0 := (hb0.cell axL_W0).trans ax0_W0
  have ax1_u0 := (hb0.cell axL_W0).trans ax1_W0
  have axF_u0 : ∀ o, u0.frozen? ⟨w.heap.size, o, none⟩ = false := fun o => (hb0.frozen axL_W0).trans (axF_W0 o)
  have axL_u0 : w.heap.size < u0.heap.size := Nat.lt_of_lt_of_le axL_W0 hb0.size
  have acc_u0 := hidP (acc_W0.out.trans (hb0.mono acc_W0.out.size))
  have sz_u0 : Hid (W0.heap.size ≤ u0.heap.size) := hidP hb0.size
  clear hb0 ax0_W0 ax1_W0 axF_W0 axL_W0 acc_W0
  go_wp2_with fail
  refine (markBlockS_nil _).mono ?_
  rintro e u1 ⟨rfl, hb1⟩
  have ax0_u1 := (hb1.cell axL_u0).trans ax0_u0
  have ax1_u1 := (hb1.cell axL_u0).trans ax1_u0
  have axF_u1 : ∀ o, u1.frozen? ⟨w.heap.size, o, none⟩ = false := fun o => (hb1.frozen axL_u0).trans (axF_u0 o)
  have axL_u1 : w.heap.size < u1.heap.size := Nat.lt_of_lt_of_le axL_u0 hb1.size
  have acc_u1 := hidP (acc_u0.out.trans (hb1.mono acc_u0.out.size))
  have sz_u1 : Hid (u0.heap.size ≤ u1.heap.size) := hidP hb1.size
  clear hb1 ax0_u0 ax1_u0 axF_u0 axL_u0 acc_u0
  go_wp2_with fail
  go_ret
  exact ⟨rfl, acc_u1.out⟩

set_option maxRecDepth 10000 in
set_option maxHeartbeats 2000000 in
theorem heldPlan_nil (w : World) : Calls Try.prog 15 #[.agg #[.slice none 0 0, .slice none 0 0], .int .i64 1] w fun e w' => e = .returned (.int .i64 1) ∧ Below w.heap.size w w' := by
  go_enter Try.func15, Try.ntmps15
  go_wp2_with fail
  obtain ⟨ax0_W0, ax1_W0⟩ := bx2 w 25 (.slice none 0 0) (.slice none 0 0)
  have axF_W0 : ∀ o, (w.alloc (.cells #[.slice none 0 0, .slice none 0 0] 25)).frozen? ⟨w.heap.size, o, none⟩ = false := fun o => by simp [go_sem]
  have axL_W0 : w.heap.size < (w.alloc (.cells #[.slice none 0 0, .slice none 0 0] 25)).heap.size := by simp
  have ab_W0 := alloc_below w (.cells #[.slice none 0 0, .slice none 0 0] 25)
  have as_W0 : Hid ((w.alloc (.cells #[.slice none 0 0, .slice none 0 0] 25)).heap.size = w.heap.size + 1) := hidP (by simp)
  generalize w.alloc (.cells #[.slice none 0 0, .slice none 0 0] 25) = W0 at *
  have acc_W0 := hidP (ab_W0)
  have sz_W0 : Hid (w.heap.size ≤ W0.heap.size) := hidP ab_W0.size
  clear ab_W0 
  refine (heldPoolS_nil _).mono ?_
  rintro e u0 ⟨rfl, hb0⟩
  have ax0_u0 := (hb0.cell axL_W0).trans ax0_W0
  have ax1_u0 := (hb0.cell axL_W0).trans ax1_W0
  have axF_u0 : ∀ o, u0.frozen? ⟨w.heap.size, o, none⟩ = false := fun o => (hb0.frozen axL_W0).trans (axF_W0 o)
  have axL_u0 : w.heap.size < u0.heap.size := Nat.lt_of_lt_of_le axL_W0 hb0.size
  have acc_u0 := hidP (acc_W0.out.trans (hb0.mono acc_W0.out.size))
  have sz_u0 : Hid (W0.heap.size ≤ u0.heap.size) := hidP hb0.size
  clear hb0 ax0_W0 ax1_W0 axF_W0 axL_W0 acc_W0
  go_wp2_with fail
  refine (heldBlockS_nil _).mono ?_
  rintro e u1 ⟨rfl, hb1⟩
  have ax0_u1 := (hb1.cell axL_u0).trans ax0_u0
  have ax1_u1 := (hb1.cell axL_u0).trans ax1_u0
  have axF_u1 : ∀ o, u1.frozen? ⟨w.heap.size, o, none⟩ = false := fun o => (hb1.frozen axL_u0).trans (axF_u0 o)
  have axL_u1 : w.heap.size < u1.heap.size := Nat.lt_of_lt_of_le axL_u0 hb1.size
  have acc_u1 := hidP (acc_u0.out.trans (hb1.mono acc_u0.out.size))
  have sz_u1 : Hid (u0.heap.size ≤ u1.heap.size) := hidP hb1.size
  clear hb1 ax0_u0 ax1_u0 axF_u0 axL_u0 acc_u0
  go_wp2_with fail
  go_ret
  exact ⟨rfl, acc_u1.out⟩

set_option maxRecDepth 10000 in
set_option maxHeartbeats 2000000 in
theorem eqBook_nil (w : World) : Calls Try.prog 10 #[.agg #[.slice none 0 0, .int .i64 0, .int .i64 0], .agg #[.slice none 0 0, .int .i64 0, .int .i64 0]] w fun e w' => e = .returned (.bool true) ∧ Below w.heap.size w w' := by
  go_enter Try.func10, Try.ntmps10
  go_wp2_with fail
  obtain ⟨ax0_W0, ax1_W0, ax2_W0⟩ := bx3 w 28 (.slice none 0 0) (.int .i64 0) (.int .i64 0)
  have axF_W0 : ∀ o, (w.alloc (.cells #[.slice none 0 0, .int .i64 0, .int .i64 0] 28)).frozen? ⟨w.heap.size, o, none⟩ = false := fun o => by simp [go_sem]
  have axL_W0 : w.heap.size < (w.alloc (.cells #[.slice none 0 0, .int .i64 0, .int .i64 0] 28)).heap.size := by simp
  have ab_W0 := alloc_below w (.cells #[.slice none 0 0, .int .i64 0, .int .i64 0] 28)
  have as_W0 : Hid ((w.alloc (.cells #[.slice none 0 0, .int .i64 0, .int .i64 0] 28)).heap.size = w.heap.size + 1) := hidP (by simp)
  generalize w.alloc (.cells #[.slice none 0 0, .int .i64 0, .int .i64 0] 28) = W0 at *
  have acc_W0 := hidP (ab_W0)
  have sz_W0 : Hid (w.heap.size ≤ W0.heap.size) := hidP ab_W0.size
  clear ab_W0 
  obtain ⟨bx0_W1, bx1_W1, bx2_W1⟩ := bx3 W0 28 (.slice none 0 0) (.int .i64 0) (.int .i64 0)
  have bxF_W1 : ∀ o, (W0.alloc (.cells #[.slice none 0 0, .int .i64 0, .int .i64 0] 28)).frozen? ⟨W0.heap.size, o, none⟩ = false := fun o => by simp [go_sem]
  have bxL_W1 : W0.heap.size < (W0.alloc (.cells #[.slice none 0 0, .int .i64 0, .int .i64 0] 28)).heap.size := by simp
  have ab_W1 := alloc_below W0 (.cells #[.slice none 0 0, .int .i64 0, .int .i64 0] 28)
  have as_W1 : Hid ((W0.alloc (.cells #[.slice none 0 0, .int .i64 0, .int .i64 0] 28)).heap.size = W0.heap.size + 1) := hidP (by simp)
  generalize W0.alloc (.cells #[.slice none 0 0, .int .i64 0, .int .i64 0] 28) = W1 at *
  have ax0_W1 := (ab_W1.cell axL_W0).trans ax0_W0
  have ax1_W1 := (ab_W1.cell axL_W0).trans ax1_W0
  have ax2_W1 := (ab_W1.cell axL_W0).trans ax2_W0
  have axF_W1 : ∀ o, W1.frozen? ⟨w.heap.size, o, none⟩ = false := fun o => (ab_W1.frozen axL_W0).trans (axF_W0 o)
  have axL_W1 : w.heap.size < W1.heap.size := Nat.lt_of_lt_of_le axL_W0 ab_W1.size
  have acc_W1 := hidP (acc_W0.out.trans (ab_W1.mono acc_W0.out.size))
  have sz_W1 : Hid (W0.heap.size ≤ W1.heap.size) := hidP ab_W1.size
  clear ab_W1 ax0_W0 ax1_W0 ax2_W0 axF_W0 axL_W0 acc_W0
  simp only [as_W0.out] at bx0_W1 bx1_W1 bx2_W1 bxF_W1 bxL_W1
  refine (eqLeaseS_nil _).mono ?_
  rintro e u0 ⟨rfl, hb0⟩
  have ax0_u0 := (hb0.cell axL_W1).trans ax0_W1
  have ax1_u0 := (hb0.cell axL_W1).trans ax1_W1
  have ax2_u0 := (hb0.cell axL_W1).trans ax2_W1
  have axF_u0 : ∀ o, u0.frozen? ⟨w.heap.size, o, none⟩ = false := fun o => (hb0.frozen axL_W1).trans (axF_W1 o)
  have axL_u0 : w.heap.size < u0.heap.size := Nat.lt_of_lt_of_le axL_W1 hb0.size
  have bx0_u0 := (hb0.cell bxL_W1).trans bx0_W1
  have bx1_u0 := (hb0.cell bxL_W1).trans bx1_W1
  have bx2_u0 := (hb0.cell bxL_W1).trans bx2_W1
  have bxF_u0 : ∀ o, u0.frozen? ⟨(w.heap.size + 1), o, none⟩ = false := fun o => (hb0.frozen bxL_W1).trans (bxF_W1 o)
  have bxL_u0 : (w.heap.size + 1) < u0.heap.size := Nat.lt_of_lt_of_le bxL_W1 hb0.size
  have acc_u0 := hidP (acc_W1.out.trans (hb0.mono acc_W1.out.size))
  have sz_u0 : Hid (W1.heap.size ≤ u0.heap.size) := hidP hb0.size
  clear hb0 ax0_W1 ax1_W1 ax2_W1 axF_W1 axL_W1 bx0_W1 bx1_W1 bx2_W1 bxF_W1 bxL_W1 acc_W1
  go_wp2_with fail
  go_ret
  exact ⟨rfl, acc_u0.out⟩

set_option maxRecDepth 10000 in
set_option maxHeartbeats 2000000 in
theorem markBook_nil (w : World) : Calls Try.prog 13 #[.agg #[.slice none 0 0, .int .i64 0, .int .i64 0], .int .i64 1] w fun e w' => e = .returned (.int .i64 1) ∧ Below w.heap.size w w' := by
  go_enter Try.func13, Try.ntmps13
  go_wp2_with fail
  obtain ⟨ax0_W0, ax1_W0, ax2_W0⟩ := bx3 w 28 (.slice none 0 0) (.int .i64 0) (.int .i64 0)
  have axF_W0 : ∀ o, (w.alloc (.cells #[.slice none 0 0, .int .i64 0, .int .i64 0] 28)).frozen? ⟨w.heap.size, o, none⟩ = false := fun o => by simp [go_sem]
  have axL_W0 : w.heap.size < (w.alloc (.cells #[.slice none 0 0, .int .i64 0, .int .i64 0] 28)).heap.size := by simp
  have ab_W0 := alloc_below w (.cells #[.slice none 0 0, .int .i64 0, .int .i64 0] 28)
  have as_W0 : Hid ((w.alloc (.cells #[.slice none 0 0, .int .i64 0, .int .i64 0] 28)).heap.size = w.heap.size + 1) := hidP (by simp)
  generalize w.alloc (.cells #[.slice none 0 0, .int .i64 0, .int .i64 0] 28) = W0 at *
  have acc_W0 := hidP (ab_W0)
  have sz_W0 : Hid (w.heap.size ≤ W0.heap.size) := hidP ab_W0.size
  clear ab_W0 
  refine (markLeaseS_nil _).mono ?_
  rintro e u0 ⟨rfl, hb0⟩
  have ax0_u0 := (hb0.cell axL_W0).trans ax0_W0
  have ax1_u0 := (hb0.cell axL_W0).trans ax1_W0
  have ax2_u0 := (hb0.cell axL_W0).trans ax2_W0
  have axF_u0 : ∀ o, u0.frozen? ⟨w.heap.size, o, none⟩ = false := fun o => (hb0.frozen axL_W0).trans (axF_W0 o)
  have axL_u0 : w.heap.size < u0.heap.size := Nat.lt_of_lt_of_le axL_W0 hb0.size
  have acc_u0 := hidP (acc_W0.out.trans (hb0.mono acc_W0.out.size))
  have sz_u0 : Hid (W0.heap.size ≤ u0.heap.size) := hidP hb0.size
  clear hb0 ax0_W0 ax1_W0 ax2_W0 axF_W0 axL_W0 acc_W0
  go_wp2_with fail
  go_ret
  exact ⟨rfl, acc_u0.out⟩

set_option maxRecDepth 10000 in
set_option maxHeartbeats 2000000 in
theorem heldBook_nil (w : World) : Calls Try.prog 16 #[.agg #[.slice none 0 0, .int .i64 0, .int .i64 0], .int .i64 1] w fun e w' => e = .returned (.int .i64 1) ∧ Below w.heap.size w w' := by
  go_enter Try.func16, Try.ntmps16
  go_wp2_with fail
  obtain ⟨ax0_W0, ax1_W0, ax2_W0⟩ := bx3 w 28 (.slice none 0 0) (.int .i64 0) (.int .i64 0)
  have axF_W0 : ∀ o, (w.alloc (.cells #[.slice none 0 0, .int .i64 0, .int .i64 0] 28)).frozen? ⟨w.heap.size, o, none⟩ = false := fun o => by simp [go_sem]
  have axL_W0 : w.heap.size < (w.alloc (.cells #[.slice none 0 0, .int .i64 0, .int .i64 0] 28)).heap.size := by simp
  have ab_W0 := alloc_below w (.cells #[.slice none 0 0, .int .i64 0, .int .i64 0] 28)
  have as_W0 : Hid ((w.alloc (.cells #[.slice none 0 0, .int .i64 0, .int .i64 0] 28)).heap.size = w.heap.size + 1) := hidP (by simp)
  generalize w.alloc (.cells #[.slice none 0 0, .int .i64 0, .int .i64 0] 28) = W0 at *
  have acc_W0 := hidP (ab_W0)
  have sz_W0 : Hid (w.heap.size ≤ W0.heap.size) := hidP ab_W0.size
  clear ab_W0 
  refine (heldLeaseS_nil _).mono ?_
  rintro e u0 ⟨rfl, hb0⟩
  have ax0_u0 := (hb0.cell axL_W0).trans ax0_W0
  have ax1_u0 := (hb0.cell axL_W0).trans ax1_W0
  have ax2_u0 := (hb0.cell axL_W0).trans ax2_W0
  have axF_u0 : ∀ o, u0.frozen? ⟨w.heap.size, o, none⟩ = false := fun o => (hb0.frozen axL_W0).trans (axF_W0 o)
  have axL_u0 : w.heap.size < u0.heap.size := Nat.lt_of_lt_of_le axL_W0 hb0.size
  have acc_u0 := hidP (acc_W0.out.trans (hb0.mono acc_W0.out.size))
  have sz_u0 : Hid (W0.heap.size ≤ u0.heap.size) := hidP hb0.size
  clear hb0 ax0_W0 ax1_W0 ax2_W0 axF_W0 axL_W0 acc_W0
  go_wp2_with fail
  go_ret
  exact ⟨rfl, acc_u0.out⟩

set_option maxRecDepth 10000 in
set_option maxHeartbeats 2000000 in
theorem eqDesk_nil (w : World) : Calls Try.prog 11 #[.agg #[.slice none 0 0, .int .i64 1], .agg #[.slice none 0 0, .int .i64 1]] w fun e w' => e = .returned (.bool true) ∧ Below w.heap.size w w' := by
  go_enter Try.func11, Try.ntmps11
  go_wp2_with fail
  obtain ⟨ax0_W0, ax1_W0⟩ := bx2 w 31 (.slice none 0 0) (.int .i64 1)
  have axF_W0 : ∀ o, (w.alloc (.cells #[.slice none 0 0, .int .i64 1] 31)).frozen? ⟨w.heap.size, o, none⟩ = false := fun o => by simp [go_sem]
  have axL_W0 : w.heap.size < (w.alloc (.cells #[.slice none 0 0, .int .i64 1] 31)).heap.size := by simp
  have ab_W0 := alloc_below w (.cells #[.slice none 0 0, .int .i64 1] 31)
  have as_W0 : Hid ((w.alloc (.cells #[.slice none 0 0, .int .i64 1] 31)).heap.size = w.heap.size + 1) := hidP (by simp)
  generalize w.alloc (.cells #[.slice none 0 0, .int .i64 1] 31) = W0 at *
  have acc_W0 := hidP (ab_W0)
  have sz_W0 : Hid (w.heap.size ≤ W0.heap.size) := hidP ab_W0.size
  clear ab_W0 
  obtain ⟨bx0_W1, bx1_W1⟩ := bx2 W0 31 (.slice none 0 0) (.int .i64 1)
  have bxF_W1 : ∀ o, (W0.alloc (.cells #[.slice none 0 0, .int .i64 1] 31)).frozen? ⟨W0.heap.size, o, none⟩ = false := fun o => by simp [go_sem]
  have bxL_W1 : W0.heap.size < (W0.alloc (.cells #[.slice none 0 0, .int .i64 1] 31)).heap.size := by simp
  have ab_W1 := alloc_below W0 (.cells #[.slice none 0 0, .int .i64 1] 31)
  have as_W1 : Hid ((W0.alloc (.cells #[.slice none 0 0, .int .i64 1] 31)).heap.size = W0.heap.size + 1) := hidP (by simp)
  generalize W0.alloc (.cells #[.slice none 0 0, .int .i64 1] 31) = W1 at *
  have ax0_W1 := (ab_W1.cell axL_W0).trans ax0_W0
  have ax1_W1 := (ab_W1.cell axL_W0).trans ax1_W0
  have axF_W1 : ∀ o, W1.frozen? ⟨w.heap.size, o, none⟩ = false := fun o => (ab_W1.frozen axL_W0).trans (axF_W0 o)
  have axL_W1 : w.heap.size < W1.heap.size := Nat.lt_of_lt_of_le axL_W0 ab_W1.size
  have acc_W1 := hidP (acc_W0.out.trans (ab_W1.mono acc_W0.out.size))
  have sz_W1 : Hid (W0.heap.size ≤ W1.heap.size) := hidP ab_W1.size
  clear ab_W1 ax0_W0 ax1_W0 axF_W0 axL_W0 acc_W0
  simp only [as_W0.out] at bx0_W1 bx1_W1 bxF_W1 bxL_W1
  refine (eqSessionS_nil _).mono ?_
  rintro e u0 ⟨rfl, hb0⟩
  have ax0_u0 := (hb0.cell axL_W1).trans ax0_W1
  have ax1_u0 := (hb0.cell axL_W1).trans ax1_W1
  have axF_u0 : ∀ o, u0.frozen? ⟨w.heap.size, o, none⟩ = false := fun o => (hb0.frozen axL_W1).trans (axF_W1 o)
  have axL_u0 : w.heap.size < u0.heap.size := Nat.lt_of_lt_of_le axL_W1 hb0.size
  have bx0_u0 := (hb0.cell bxL_W1).trans bx0_W1
  have bx1_u0 := (hb0.cell bxL_W1).trans bx1_W1
  have bxF_u0 : ∀ o, u0.frozen? ⟨(w.heap.size + 1), o, none⟩ = false := fun o => (hb0.frozen bxL_W1).trans (bxF_W1 o)
  have bxL_u0 : (w.heap.size + 1) < u0.heap.size := Nat.lt_of_lt_of_le bxL_W1 hb0.size
  have acc_u0 := hidP (acc_W1.out.trans (hb0.mono acc_W1.out.size))
  have sz_u0 : Hid (W1.heap.size ≤ u0.heap.size) := hidP hb0.size
  clear hb0 ax0_W1 ax1_W1 axF_W1 axL_W1 bx0_W1 bx1_W1 bxF_W1 bxL_W1 acc_W1
  go_wp2_with fail
  go_ret
  exact ⟨rfl, acc_u0.out⟩

set_option maxRecDepth 10000 in
set_option maxHeartbeats 2000000 in
theorem markDesk_nil (w : World) : Calls Try.prog 14 #[.agg #[.slice none 0 0, .int .i64 1], .int .i64 1] w fun e w' => e = .returned (.int .i64 1) ∧ Below w.heap.size w w' := by
  go_enter Try.func14, Try.ntmps14
  go_wp2_with fail
  obtain ⟨ax0_W0, ax1_W0⟩ := bx2 w 31 (.slice none 0 0) (.int .i64 1)
  have axF_W0 : ∀ o, (w.alloc (.cells #[.slice none 0 0, .int .i64 1] 31)).frozen? ⟨w.heap.size, o, none⟩ = false := fun o => by simp [go_sem]
  have axL_W0 : w.heap.size < (w.alloc (.cells #[.slice none 0 0, .int .i64 1] 31)).heap.size := by simp
  have ab_W0 := alloc_below w (.cells #[.slice none 0 0, .int .i64 1] 31)
  have as_W0 : Hid ((w.alloc (.cells #[.slice none 0 0, .int .i64 1] 31)).heap.size = w.heap.size + 1) := hidP (by simp)
  generalize w.alloc (.cells #[.slice none 0 0, .int .i64 1] 31) = W0 at *
  have acc_W0 := hidP (ab_W0)
  have sz_W0 : Hid (w.heap.size ≤ W0.heap.size) := hidP ab_W0.size
  clear ab_W0 
  refine (markSessionS_nil _).mono ?_
  rintro e u0 ⟨rfl, hb0⟩
  have ax0_u0 := (hb0.cell axL_W0).trans ax0_W0
  have ax1_u0 := (hb0.cell axL_W0).trans ax1_W0
  have axF_u0 : ∀ o, u0.frozen? ⟨w.heap.size, o, none⟩ = false := fun o => (hb0.frozen axL_W0).trans (axF_W0 o)
  have axL_u0 : w.heap.size < u0.heap.size := Nat.lt_of_lt_of_le axL_W0 hb0.size
  have acc_u0 := hidP (acc_W0.out.trans (hb0.mono acc_W0.out.size))
  have sz_u0 : Hid (W0.heap.size ≤ u0.heap.size) := hidP hb0.size
  clear hb0 ax0_W0 ax1_W0 axF_W0 axL_W0 acc_W0
  go_wp2_with fail
  go_ret
  exact ⟨rfl, acc_u0.out⟩

set_option maxRecDepth 10000 in
set_option maxHeartbeats 2000000 in
theorem heldDesk_nil (w : World) : Calls Try.prog 17 #[.agg #[.slice none 0 0, .int .i64 1], .int .i64 1] w fun e w' => e = .returned (.int .i64 1) ∧ Below w.heap.size w w' := by
  go_enter Try.func17, Try.ntmps17
  go_wp2_with fail
  obtain ⟨ax0_W0, ax1_W0⟩ := bx2 w 31 (.slice none 0 0) (.int .i64 1)
  have axF_W0 : ∀ o, (w.alloc (.cells #[.slice none 0 0, .int .i64 1] 31)).frozen? ⟨w.heap.size, o, none⟩ = false := fun o => by simp [go_sem]
  have axL_W0 : w.heap.size < (w.alloc (.cells #[.slice none 0 0, .int .i64 1] 31)).heap.size := by simp
  have ab_W0 := alloc_below w (.cells #[.slice none 0 0, .int .i64 1] 31)
  have as_W0 : Hid ((w.alloc (.cells #[.slice none 0 0, .int .i64 1] 31)).heap.size = w.heap.size + 1) := hidP (by simp)
  generalize w.alloc (.cells #[.slice none 0 0, .int .i64 1] 31) = W0 at *
  have acc_W0 := hidP (ab_W0)
  have sz_W0 : Hid (w.heap.size ≤ W0.heap.size) := hidP ab_W0.size
  clear ab_W0 
  refine (heldSessionS_nil _).mono ?_
  rintro e u0 ⟨rfl, hb0⟩
  have ax0_u0 := (hb0.cell axL_W0).trans ax0_W0
  have ax1_u0 := (hb0.cell axL_W0).trans ax1_W0
  have axF_u0 : ∀ o, u0.frozen? ⟨w.heap.size, o, none⟩ = false := fun o => (hb0.frozen axL_W0).trans (axF_W0 o)
  have axL_u0 : w.heap.size < u0.heap.size := Nat.lt_of_lt_of_le axL_W0 hb0.size
  have acc_u0 := hidP (acc_W0.out.trans (hb0.mono acc_W0.out.size))
  have sz_u0 : Hid (W0.heap.size ≤ u0.heap.size) := hidP hb0.size
  clear hb0 ax0_W0 ax1_W0 axF_W0 axL_W0 acc_W0
  go_wp2_with fail
  go_ret
  exact ⟨rfl, acc_u0.out⟩

set_option maxRecDepth 10000 in
set_option maxHeartbeats 2000000 in
theorem eqState_nil (w : World) : Calls Try.prog 6 #[.agg #[.slice none 0 0, .slice none 0 0, .slice none 0 0, .int .i64 0, .int .i64 0, .slice none 0 0, .int .i64 1, .int .i64 0], .agg #[.slice none 0 0, .slice none 0 0, .slice none 0 0, .int .i64 0, .int .i64 0, .slice none 0 0, .int .i64 1, .int .i64 0]] w fun e w' => e = .returned (.bool true) ∧ Below w.heap.size w w' := by
  go_enter Try.func6, Try.ntmps6
  go_wp2_with fail
  obtain ⟨ax0_W0, ax1_W0, ax2_W0, ax3_W0, ax4_W0, ax5_W0, ax6_W0, ax7_W0⟩ := bx8 w 33 (.slice none 0 0) (.slice none 0 0) (.slice none 0 0) (.int .i64 0) (.int .i64 0) (.slice none 0 0) (.int .i64 1) (.int .i64 0)
  have axF_W0 : ∀ o, (w.alloc (.cells #[.slice none 0 0, .slice none 0 0, .slice none 0 0, .int .i64 0, .int .i64 0, .slice none 0 0, .int .i64 1, .int .i64 0] 33)).frozen? ⟨w.heap.size, o, none⟩ = false := fun o => by simp [go_sem]
  have axL_W0 : w.heap.size < (w.alloc (.cells #[.slice none 0 0, .slice none 0 0, .slice none 0 0, .int .i64 0, .int .i64 0, .slice none 0 0, .int .i64 1, .int .i64 0] 33)).heap.size := by simp
  have ab_W0 := alloc_below w (.cells #[.slice none 0 0, .slice none 0 0, .slice none 0 0, .int .i64 0, .int .i64 0, .slice none 0 0, .int .i64 1, .int .i64 0] 33)
  have as_W0 : Hid ((w.alloc (.cells #[.slice none 0 0, .slice none 0 0, .slice none 0 0, .int .i64 0, .int .i64 0, .slice none 0 0, .int .i64 1, .int .i64 0] 33)).heap.size = w.heap.size + 1) := hidP (by simp)
  generalize w.alloc (.cells #[.slice none 0 0, .slice none 0 0, .slice none 0 0, .int .i64 0, .int .i64 0, .slice none 0 0, .int .i64 1, .int .i64 0] 33) = W0 at *
  have acc_W0 := hidP (ab_W0)
  have sz_W0 : Hid (w.heap.size ≤ W0.heap.size) := hidP ab_W0.size
  clear ab_W0 
  obtain ⟨bx0_W1, bx1_W1, bx2_W1, bx3_W1, bx4_W1, bx5_W1, bx6_W1, bx7_W1⟩ := bx8 W0 33 (.slice none 0 0) (.slice none 0 0) (.slice none 0 0) (.int .i64 0) (.int .i64 0) (.slice none 0 0) (.int .i64 1) (.int .i64 0)
  have bxF_W1 : ∀ o, (W0.alloc (.cells #[.slice none 0 0, .slice none 0 0, .slice none 0 0, .int .i64 0, .int .i64 0, .slice none 0 0, .int .i64 1, .int .i64 0] 33)).frozen? ⟨W0.heap.size, o, none⟩ = false := fun o => by simp [go_sem]
  have bxL_W1 : W0.heap.size < (W0.alloc (.cells #[.slice none 0 0, .slice none 0 0, .slice none 0 0, .int .i64 0, .int .i64 0, .slice none 0 0, .int .i64 1, .int .i64 0] 33)).heap.size := by simp
  have ab_W1 := alloc_below W0 (.cells #[.slice none 0 0, .slice none 0 0, .slice none 0 0, .int .i64 0, .int .i64 0, .slice none 0 0, .int .i64 1, .int .i64 0] 33)
  have as_W1 : Hid ((W0.alloc (.cells #[.slice none 0 0, .slice none 0 0, .slice none 0 0, .int .i64 0, .int .i64 0, .slice none 0 0, .int .i64 1, .int .i64 0] 33)).heap.size = W0.heap.size + 1) := hidP (by simp)
  generalize W0.alloc (.cells #[.slice none 0 0, .slice none 0 0, .slice none 0 0, .int .i64 0, .int .i64 0, .slice none 0 0, .int .i64 1, .int .i64 0] 33) = W1 at *
  have ax0_W1 := (ab_W1.cell axL_W0).trans ax0_W0
  have ax1_W1 := (ab_W1.cell axL_W0).trans ax1_W0
  have ax2_W1 := (ab_W1.cell axL_W0).trans ax2_W0
  have ax3_W1 := (ab_W1.cell axL_W0).trans ax3_W0
  have ax4_W1 := (ab_W1.cell axL_W0).trans ax4_W0
  have ax5_W1 := (ab_W1.cell axL_W0).trans ax5_W0
  have ax6_W1 := (ab_W1.cell axL_W0).trans ax6_W0
  have ax7_W1 := (ab_W1.cell axL_W0).trans ax7_W0
  have axF_W1 : ∀ o, W1.frozen? ⟨w.heap.size, o, none⟩ = false := fun o => (ab_W1.frozen axL_W0).trans (axF_W0 o)
  have axL_W1 : w.heap.size < W1.heap.size := Nat.lt_of_lt_of_le axL_W0 ab_W1.size
  have acc_W1 := hidP (acc_W0.out.trans (ab_W1.mono acc_W0.out.size))
  have sz_W1 : Hid (W0.heap.size ≤ W1.heap.size) := hidP ab_W1.size
  clear ab_W1 ax0_W0 ax1_W0 ax2_W0 ax3_W0 ax4_W0 ax5_W0 ax6_W0 ax7_W0 axF_W0 axL_W0 acc_W0
  simp only [as_W0.out] at bx0_W1 bx1_W1 bx2_W1 bx3_W1 bx4_W1 bx5_W1 bx6_W1 bx7_W1 bxF_W1 bxL_W1
  refine (eqPlan_nil _).mono ?_
  rintro e u0 ⟨rfl, hb0⟩
  have ax0_u0 := (hb0.cell axL_W1).trans ax0_W1
  have ax1_u0 := (hb0.cell axL_W1).trans ax1_W1
  have ax2_u0 := (hb0.cell axL_W1).trans ax2_W1
  have ax3_u0 := (hb0.cell axL_W1).trans ax3_W1
  have ax4_u0 := (hb0.cell axL_W1).trans ax4_W1
  have ax5_u0 := (hb0.cell axL_W1).trans ax5_W1
  have ax6_u0 := (hb0.cell axL_W1).trans ax6_W1
  have ax7_u0 := (hb0.cell axL_W1).trans ax7_W1
  have axF_u0 : ∀ o, u0.frozen? ⟨w.heap.size, o, none⟩ = false := fun o => (hb0.frozen axL_W1).trans (axF_W1 o)
  have axL_u0 : w.heap.size < u0.heap.size := Nat.lt_of_lt_of_le axL_W1 hb0.size
  have bx0_u0 := (hb0.cell bxL_W1).trans bx0_W1
  have bx1_u0 := (hb0.cell bxL_W1).trans bx1_W1
  have bx2_u0 := (hb0.cell bxL_W1).trans bx2_W1
  have bx3_u0 := (hb0.cell bxL_W1).trans bx3_W1
  have bx4_u0 := (hb0.cell bxL_W1).trans bx4_W1
  have bx5_u0 := (hb0.cell bxL_W1).trans bx5_W1
  have bx6_u0 := (hb0.cell bxL_W1).trans bx6_W1
  have bx7_u0 := (hb0.cell bxL_W1).trans bx7_W1
  have bxF_u0 : ∀ o, u0.frozen? ⟨(w.heap.size + 1), o, none⟩ = false := fun o => (hb0.frozen bxL_W1).trans (bxF_W1 o)
  have bxL_u0 : (w.heap.size + 1) < u0.heap.size := Nat.lt_of_lt_of_le bxL_W1 hb0.size
  have acc_u0 := hidP (acc_W1.out.trans (hb0.mono acc_W1.out.size))
  have sz_u0 : Hid (W1.heap.size ≤ u0.heap.size) := hidP hb0.size
  clear hb0 ax0_W1 ax1_W1 ax2_W1 ax3_W1 ax4_W1 ax5_W1 ax6_W1 ax7_W1 axF_W1 axL_W1 bx0_W1 bx1_W1 bx2_W1 bx3_W1 bx4_W1 bx5_W1 bx6_W1 bx7_W1 bxF_W1 bxL_W1 acc_W1
  go_wp2_with fail
  refine (eqBook_nil _).mono ?_
  rintro e u1 ⟨rfl, hb1⟩
  have ax0_u1 := (hb1.cell axL_u0).trans ax0_u0
  have ax1_u1 := (hb1.cell axL_u0).trans ax1_u0
  have ax2_u1 := (hb1.cell axL_u0).trans ax2_u0
  have ax3_u1 := (hb1.cell axL_u0).trans ax3_u0
  have ax4_u1 := (hb1.cell axL_u0).trans ax4_u0
  have ax5_u1 := (hb1.cell axL_u0).trans ax5_u0
  have ax6_u1 := (hb1.cell axL_u0).trans ax6_u0
  have ax7_u1 := (hb1.cell axL_u0).trans ax7_u0
  have axF_u1 : ∀ o, u1.frozen? ⟨w.heap.size, o, none⟩ = false := fun o => (hb1.frozen axL_u0).trans (axF_u0 o)
  have axL_u1 : w.heap.size < u1.heap.size := Nat.lt_of_lt_of_le axL_u0 hb1.size
  have bx0_u1 := (hb1.cell bxL_u0).trans bx0_u0
  have bx1_u1 := (hb1.cell bxL_u0).trans bx1_u0
  have bx2_u1 := (hb1.cell bxL_u0).trans bx2_u0
  have bx3_u1 := (hb1.cell bxL_u0).trans bx3_u0
  have bx4_u1 := (hb1.cell bxL_u0).trans bx4_u0
  have bx5_u1 := (hb1.cell bxL_u0).trans bx5_u0
  have bx6_u1 := (hb1.cell bxL_u0).trans bx6_u0
  have bx7_u1 := (hb1.cell bxL_u0).trans bx7_u0
  have bxF_u1 : ∀ o, u1.frozen? ⟨(w.heap.size + 1), o, none⟩ = false := fun o => (hb1.frozen bxL_u0).trans (bxF_u0 o)
  have bxL_u1 : (w.heap.size + 1) < u1.heap.size := Nat.lt_of_lt_of_le bxL_u0 hb1.size
  have acc_u1 := hidP (acc_u0.out.trans (hb1.mono acc_u0.out.size))
  have sz_u1 : Hid (u0.heap.size ≤ u1.heap.size) := hidP hb1.size
  clear hb1 ax0_u0 ax1_u0 ax2_u0 ax3_u0 ax4_u0 ax5_u0 ax6_u0 ax7_u0 axF_u0 axL_u0 bx0_u0 bx1_u0 bx2_u0 bx3_u0 bx4_u0 bx5_u0 bx6_u0 bx7_u0 bxF_u0 bxL_u0 acc_u0
  go_wp2_with fail
  refine (eqDesk_nil _).mono ?_
  rintro e u2 ⟨rfl, hb2⟩
  have ax0_u2 := (hb2.cell axL_u1).trans ax0_u1
  have ax1_u2 := (hb2.cell axL_u1).trans ax1_u1
  have ax2_u2 := (hb2.cell axL_u1).trans ax2_u1
  have ax3_u2 := (hb2.cell axL_u1).trans ax3_u1
  have ax4_u2 := (hb2.cell axL_u1).trans ax4_u1
  have ax5_u2 := (hb2.cell axL_u1).trans ax5_u1
  have ax6_u2 := (hb2.cell axL_u1).trans ax6_u1
  have ax7_u2 := (hb2.cell axL_u1).trans ax7_u1
  have axF_u2 : ∀ o, u2.frozen? ⟨w.heap.size, o, none⟩ = false := fun o => (hb2.frozen axL_u1).trans (axF_u1 o)
  have axL_u2 : w.heap.size < u2.heap.size := Nat.lt_of_lt_of_le axL_u1 hb2.size
  have bx0_u2 := (hb2.cell bxL_u1).trans bx0_u1
  have bx1_u2 := (hb2.cell bxL_u1).trans bx1_u1
  have bx2_u2 := (hb2.cell bxL_u1).trans bx2_u1
  have bx3_u2 := (hb2.cell bxL_u1).trans bx3_u1
  have bx4_u2 := (hb2.cell bxL_u1).trans bx4_u1
  have bx5_u2 := (hb2.cell bxL_u1).trans bx5_u1
  have bx6_u2 := (hb2.cell bxL_u1).trans bx6_u1
  have bx7_u2 := (hb2.cell bxL_u1).trans bx7_u1
  have bxF_u2 : ∀ o, u2.frozen? ⟨(w.heap.size + 1), o, none⟩ = false := fun o => (hb2.frozen bxL_u1).trans (bxF_u1 o)
  have bxL_u2 : (w.heap.size + 1) < u2.heap.size := Nat.lt_of_lt_of_le bxL_u1 hb2.size
  have acc_u2 := hidP (acc_u1.out.trans (hb2.mono acc_u1.out.size))
  have sz_u2 : Hid (u1.heap.size ≤ u2.heap.size) := hidP hb2.size
  clear hb2 ax0_u1 ax1_u1 ax2_u1 ax3_u1 ax4_u1 ax5_u1 ax6_u1 ax7_u1 axF_u1 axL_u1 bx0_u1 bx1_u1 bx2_u1 bx3_u1 bx4_u1 bx5_u1 bx6_u1 bx7_u1 bxF_u1 bxL_u1 acc_u1
  go_wp2_with fail
  go_ret
  exact ⟨rfl, acc_u2.out⟩

set_option maxRecDepth 10000 in
set_option maxHeartbeats 2000000 in
theorem markState_nil (w : World) : Calls Try.prog 7 #[.agg #[.slice none 0 0, .slice none 0 0, .slice none 0 0, .int .i64 0, .int .i64 0, .slice none 0 0, .int .i64 1, .int .i64 0], .int .i64 1] w fun e w' => e = .returned (.int .i64 1) ∧ Below w.heap.size w w' := by
  go_enter Try.func7, Try.ntmps7
  go_wp2_with fail
  obtain ⟨ax0_W0, ax1_W0, ax2_W0, ax3_W0, ax4_W0, ax5_W0, ax6_W0, ax7_W0⟩ := bx8 w 33 (.slice none 0 0) (.slice none 0 0) (.slice none 0 0) (.int .i64 0) (.int .i64 0) (.slice none 0 0) (.int .i64 1) (.int .i64 0)
  have axF_W0 : ∀ o, (w.alloc (.cells #[.slice none 0 0, .slice none 0 0, .slice none 0 0, .int .i64 0, .int .i64 0, .slice none 0 0, .int .i64 1, .int .i64 0] 33)).frozen? ⟨w.heap.size, o, none⟩ = false := fun o => by simp [go_sem]
  have axL_W0 : w.heap.size < (w.alloc (.cells #[.slice none 0 0, .slice none 0 0, .slice none 0 0, .int .i64 0, .int .i64 0, .slice none 0 0, .int .i64 1, .int .i64 0] 33)).heap.size := by simp
  have ab_W0 := alloc_below w (.cells #[.slice none 0 0, .slice none 0 0, .slice none 0 0, .int .i64 0, .int .i64 0, .slice none 0 0, .int .i64 1, .int .i64 0] 33)
  have as_W0 : Hid ((w.alloc (.cells #[.slice none 0 0, .slice none 0 0, .slice none 0 0, .int .i64 0, .int .i64 0, .slice none 0 0, .int .i64 1, .int .i64 0] 33)).heap.size = w.heap.size + 1) := hidP (by simp)
  generalize w.alloc (.cells #[.slice none 0 0, .slice none 0 0, .slice none 0 0, .int .i64 0, .int .i64 0, .slice none 0 0, .int .i64 1, .int .i64 0] 33) = W0 at *
  have acc_W0 := hidP (ab_W0)
  have sz_W0 : Hid (w.heap.size ≤ W0.heap.size) := hidP ab_W0.size
  clear ab_W0 
  refine (markPlan_nil _).mono ?_
  rintro e u0 ⟨rfl, hb0⟩
  have ax0_u0 := (hb0.cell axL_W0).trans ax0_W0
  have ax1_u0 := (hb0.cell axL_W0).trans ax1_W0
  have ax2_u0 := (hb0.cell axL_W0).trans ax2_W0
  have ax3_u0 := (hb0.cell axL_W0).trans ax3_W0
  have ax4_u0 := (hb0.cell axL_W0).trans ax4_W0
  have ax5_u0 := (hb0.cell axL_W0).trans ax5_W0
  have ax6_u0 := (hb0.cell axL_W0).trans ax6_W0
  have ax7_u0 := (hb0.cell axL_W0).trans ax7_W0
  have axF_u0 : ∀ o, u0.frozen? ⟨w.heap.size, o, none⟩ = false := fun o => (hb0.frozen axL_W0).trans (axF_W0 o)
  have axL_u0 : w.heap.size < u0.heap.size := Nat.lt_of_lt_of_le axL_W0 hb0.size
  have acc_u0 := hidP (acc_W0.out.trans (hb0.mono acc_W0.out.size))
  have sz_u0 : Hid (W0.heap.size ≤ u0.heap.size) := hidP hb0.size
  clear hb0 ax0_W0 ax1_W0 ax2_W0 ax3_W0 ax4_W0 ax5_W0 ax6_W0 ax7_W0 axF_W0 axL_W0 acc_W0
  go_wp2_with fail
  refine (markBook_nil _).mono ?_
  rintro e u1 ⟨rfl, hb1⟩
  have ax0_u1 := (hb1.cell axL_u0).trans ax0_u0
  have ax1_u1 := (hb1.cell axL_u0).trans ax1_u0
  have ax2_u1 := (hb1.cell axL_u0).trans ax2_u0
  have ax3_u1 := (hb1.cell axL_u0).trans ax3_u0
  have ax4_u1 := (hb1.cell axL_u0).trans ax4_u0
  have ax5_u1 := (hb1.cell axL_u0).trans ax5_u0
  have ax6_u1 := (hb1.cell axL_u0).trans ax6_u0
  have ax7_u1 := (hb1.cell axL_u0).trans ax7_u0
  have axF_u1 : ∀ o, u1.frozen? ⟨w.heap.size, o, none⟩ = false := fun o => (hb1.frozen axL_u0).trans (axF_u0 o)
  have axL_u1 : w.heap.size < u1.heap.size := Nat.lt_of_lt_of_le axL_u0 hb1.size
  have acc_u1 := hidP (acc_u0.out.trans (hb1.mono acc_u0.out.size))
  have sz_u1 : Hid (u0.heap.size ≤ u1.heap.size) := hidP hb1.size
  clear hb1 ax0_u0 ax1_u0 ax2_u0 ax3_u0 ax4_u0 ax5_u0 ax6_u0 ax7_u0 axF_u0 axL_u0 acc_u0
  go_wp2_with fail
  refine (markDesk_nil _).mono ?_
  rintro e u2 ⟨rfl, hb2⟩
  have ax0_u2 := (hb2.cell axL_u1).trans ax0_u1
  have ax1_u2 := (hb2.cell axL_u1).trans ax1_u1
  have ax2_u2 := (hb2.cell axL_u1).trans ax2_u1
  have ax3_u2 := (hb2.cell axL_u1).trans ax3_u1
  have ax4_u2 := (hb2.cell axL_u1).trans ax4_u1
  have ax5_u2 := (hb2.cell axL_u1).trans ax5_u1
  have ax6_u2 := (hb2.cell axL_u1).trans ax6_u1
  have ax7_u2 := (hb2.cell axL_u1).trans ax7_u1
  have axF_u2 : ∀ o, u2.frozen? ⟨w.heap.size, o, none⟩ = false := fun o => (hb2.frozen axL_u1).trans (axF_u1 o)
  have axL_u2 : w.heap.size < u2.heap.size := Nat.lt_of_lt_of_le axL_u1 hb2.size
  have acc_u2 := hidP (acc_u1.out.trans (hb2.mono acc_u1.out.size))
  have sz_u2 : Hid (u1.heap.size ≤ u2.heap.size) := hidP hb2.size
  clear hb2 ax0_u1 ax1_u1 ax2_u1 ax3_u1 ax4_u1 ax5_u1 ax6_u1 ax7_u1 axF_u1 axL_u1 acc_u1
  go_wp2_with fail
  go_ret
  exact ⟨rfl, acc_u2.out⟩

set_option maxRecDepth 10000 in
set_option maxHeartbeats 2000000 in
theorem heldState_nil (w : World) : Calls Try.prog 8 #[.agg #[.slice none 0 0, .slice none 0 0, .slice none 0 0, .int .i64 0, .int .i64 0, .slice none 0 0, .int .i64 1, .int .i64 0], .int .i64 1] w fun e w' => e = .returned (.int .i64 1) ∧ Below w.heap.size w w' := by
  go_enter Try.func8, Try.ntmps8
  go_wp2_with fail
  obtain ⟨ax0_W0, ax1_W0, ax2_W0, ax3_W0, ax4_W0, ax5_W0, ax6_W0, ax7_W0⟩ := bx8 w 33 (.slice none 0 0) (.slice none 0 0) (.slice none 0 0) (.int .i64 0) (.int .i64 0) (.slice none 0 0) (.int .i64 1) (.int .i64 0)
  have axF_W0 : ∀ o, (w.alloc (.cells #[.slice none 0 0, .slice none 0 0, .slice none 0 0, .int .i64 0, .int .i64 0, .slice none 0 0, .int .i64 1, .int .i64 0] 33)).frozen? ⟨w.heap.size, o, none⟩ = false := fun o => by simp [go_sem]
  have axL_W0 : w.heap.size < (w.alloc (.cells #[.slice none 0 0, .slice none 0 0, .slice none 0 0, .int .i64 0, .int .i64 0, .slice none 0 0, .int .i64 1, .int .i64 0] 33)).heap.size := by simp
  have ab_W0 := alloc_below w (.cells #[.slice none 0 0, .slice none 0 0, .slice none 0 0, .int .i64 0, .int .i64 0, .slice none 0 0, .int .i64 1, .int .i64 0] 33)
  have as_W0 : Hid ((w.alloc (.cells #[.slice none 0 0, .slice none 0 0, .slice none 0 0, .int .i64 0, .int .i64 0, .slice none 0 0, .int .i64 1, .int .i64 0] 33)).heap.size = w.heap.size + 1) := hidP (by simp)
  generalize w.alloc (.cells #[.slice none 0 0, .slice none 0 0, .slice none 0 0, .int .i64 0, .int .i64 0, .slice none 0 0, .int .i64 1, .int .i64 0] 33) = W0 at *
  have acc_W0 := hidP (ab_W0)
  have sz_W0 : Hid (w.heap.size ≤ W0.heap.size) := hidP ab_W0.size
  clear ab_W0 
  refine (heldPlan_nil _).mono ?_
  rintro e u0 ⟨rfl, hb0⟩
  have ax0_u0 := (hb0.cell axL_W0).trans ax0_W0
  have ax1_u0 := (hb0.cell axL_W0).trans ax1_W0
  have ax2_u0 := (hb0.cell axL_W0).trans ax2_W0
  have ax3_u0 := (hb0.cell axL_W0).trans ax3_W0
  have ax4_u0 := (hb0.cell axL_W0).trans ax4_W0
  have ax5_u0 := (hb0.cell axL_W0).trans ax5_W0
  have ax6_u0 := (hb0.cell axL_W0).trans ax6_W0
  have ax7_u0 := (hb0.cell axL_W0).trans ax7_W0
  have axF_u0 : ∀ o, u0.frozen? ⟨w.heap.size, o, none⟩ = false := fun o => (hb0.frozen axL_W0).trans (axF_W0 o)
  have axL_u0 : w.heap.size < u0.heap.size := Nat.lt_of_lt_of_le axL_W0 hb0.size
  have acc_u0 := hidP (acc_W0.out.trans (hb0.mono acc_W0.out.size))
  have sz_u0 : Hid (W0.heap.size ≤ u0.heap.size) := hidP hb0.size
  clear hb0 ax0_W0 ax1_W0 ax2_W0 ax3_W0 ax4_W0 ax5_W0 ax6_W0 ax7_W0 axF_W0 axL_W0 acc_W0
  go_wp2_with fail
  refine (heldBook_nil _).mono ?_
  rintro e u1 ⟨rfl, hb1⟩
  have ax0_u1 := (hb1.cell axL_u0).trans ax0_u0
  have ax1_u1 := (hb1.cell axL_u0).trans ax1_u0
  have ax2_u1 := (hb1.cell axL_u0).trans ax2_u0
  have ax3_u1 := (hb1.cell axL_u0).trans ax3_u0
  have ax4_u1 := (hb1.cell axL_u0).trans ax4_u0
  have ax5_u1 := (hb1.cell axL_u0).trans ax5_u0
  have ax6_u1 := (hb1.cell axL_u0).trans ax6_u0
  have ax7_u1 := (hb1.cell axL_u0).trans ax7_u0
  have axF_u1 : ∀ o, u1.frozen? ⟨w.heap.size, o, none⟩ = false := fun o => (hb1.frozen axL_u0).trans (axF_u0 o)
  have axL_u1 : w.heap.size < u1.heap.size := Nat.lt_of_lt_of_le axL_u0 hb1.size
  have acc_u1 := hidP (acc_u0.out.trans (hb1.mono acc_u0.out.size))
  have sz_u1 : Hid (u0.heap.size ≤ u1.heap.size) := hidP hb1.size
  clear hb1 ax0_u0 ax1_u0 ax2_u0 ax3_u0 ax4_u0 ax5_u0 ax6_u0 ax7_u0 axF_u0 axL_u0 acc_u0
  go_wp2_with fail
  refine (heldDesk_nil _).mono ?_
  rintro e u2 ⟨rfl, hb2⟩
  have ax0_u2 := (hb2.cell axL_u1).trans ax0_u1
  have ax1_u2 := (hb2.cell axL_u1).trans ax1_u1
  have ax2_u2 := (hb2.cell axL_u1).trans ax2_u1
  have ax3_u2 := (hb2.cell axL_u1).trans ax3_u1
  have ax4_u2 := (hb2.cell axL_u1).trans ax4_u1
  have ax5_u2 := (hb2.cell axL_u1).trans ax5_u1
  have ax6_u2 := (hb2.cell axL_u1).trans ax6_u1
  have ax7_u2 := (hb2.cell axL_u1).trans ax7_u1
  have axF_u2 : ∀ o, u2.frozen? ⟨w.heap.size, o, none⟩ = false := fun o => (hb2.frozen axL_u1).trans (axF_u1 o)
  have axL_u2 : w.heap.size < u2.heap.size := Nat.lt_of_lt_of_le axL_u1 hb2.size
  have acc_u2 := hidP (acc_u1.out.trans (hb2.mono acc_u1.out.size))
  have sz_u2 : Hid (u1.heap.size ≤ u2.heap.size) := hidP hb2.size
  clear hb2 ax0_u1 ax1_u1 ax2_u1 ax3_u1 ax4_u1 ax5_u1 ax6_u1 ax7_u1 axF_u1 axL_u1 acc_u1
  go_wp2_with fail
  go_ret
  exact ⟨rfl, acc_u2.out⟩

set_option maxHeartbeats 2000000 in
theorem specNew (w : World) : Calls Try.prog 4 #[] w fun e w' => e = .returned (.agg #[.slice none 0 0, .slice none 0 0, .slice none 0 0, .int .i64 0, .int .i64 0, .slice none 0 0, .int .i64 1, .int .i64 0]) ∧ Below w.heap.size w w' := by
  go_enter Try.func4, Try.ntmps4
  go_wp2_with fail
  refine bodyPost_ret (v := .agg #[.slice none 0 0, .slice none 0 0, .slice none 0 0, .int .i64 0, .int .i64 0, .slice none 0 0, .int .i64 1, .int .i64 0]) (by simp [results, Try.results4, go_sem]) rfl ⟨rfl, ?_⟩
  repeat (first | with_reducible exact Below.refl _ _ | (with_reducible refine Below.drew ?_) | (with_reducible refine Below.alloc ?_ ?_ _; rotate_left; (focus (first | omega | (simp; omega) | (simp; done)))) | (with_reducible refine Below.setCell ?_ ?_ _; rotate_left; (focus (first | omega | (simp; omega) | (simp; done)))))

set_option maxHeartbeats 2000000 in
theorem implNew (w : World) : Calls Try.prog 5 #[] w fun e w' => e = .returned (.agg #[.slice none 0 0, .slice none 0 0, .slice none 0 0, .int .i64 0, .int .i64 0, .slice none 0 0, .int .i64 1, .int .i64 0]) ∧ Below w.heap.size w w' := by
  go_enter Try.func5, Try.ntmps5
  go_wp2_with fail
  refine bodyPost_ret (v := .agg #[.slice none 0 0, .slice none 0 0, .slice none 0 0, .int .i64 0, .int .i64 0, .slice none 0 0, .int .i64 1, .int .i64 0]) (by simp [results, Try.results5, go_sem]) rfl ⟨rfl, ?_⟩
  repeat (first | with_reducible exact Below.refl _ _ | (with_reducible refine Below.drew ?_) | (with_reducible refine Below.alloc ?_ ?_ _; rotate_left; (focus (first | omega | (simp; omega) | (simp; done)))) | (with_reducible refine Below.setCell ?_ ?_ _; rotate_left; (focus (first | omega | (simp; omega) | (simp; done)))))

set_option maxRecDepth 10000 in
set_option maxHeartbeats 4000000 in
theorem lawStateNew (w : World) : Calls Try.prog 3 #[] w fun e w' => e = .returned (.bool true) ∧ Below w.heap.size w w' := by
  go_enter Try.func3, Try.ntmps3
  go_wp2_with fail
  refine (specNew _).mono ?_
  rintro e u0 ⟨rfl, hb0⟩
  have acc_u0 := hidP (hb0)
  have sz_u0 : Hid (w.heap.size ≤ u0.heap.size) := hidP hb0.size
  clear hb0 
  go_wp2_with fail
  obtain ⟨sa0_Wsa, sa1_Wsa, sa2_Wsa, sa3_Wsa, sa4_Wsa, sa5_Wsa, sa6_Wsa, sa7_Wsa⟩ := bx8 u0 33 (.slice none 0 0) (.slice none 0 0) (.slice none 0 0) (.int .i64 0) (.int .i64 0) (.slice none 0 0) (.int .i64 1) (.int .i64 0)
  have saF_Wsa : ∀ o, (u0.alloc (.cells #[.slice none 0 0, .slice none 0 0, .slice none 0 0, .int .i64 0, .int .i64 0, .slice none 0 0, .int .i64 1, .int .i64 0] 33)).frozen? ⟨u0.heap.size, o, none⟩ = false := fun o => by simp [go_sem]
  have saL_Wsa : u0.heap.size < (u0.alloc (.cells #[.slice none 0 0, .slice none 0 0, .slice none 0 0, .int .i64 0, .int .i64 0, .slice none 0 0, .int .i64 1, .int .i64 0] 33)).heap.size := by simp
  have ab_Wsa := alloc_below u0 (.cells #[.slice none 0 0, .slice none 0 0, .slice none 0 0, .int .i64 0, .int .i64 0, .slice none 0 0, .int .i64 1, .int .i64 0] 33)
  have as_Wsa : Hid ((u0.alloc (.cells #[.slice none 0 0, .slice none 0 0, .slice none 0 0, .int .i64 0, .int .i64 0, .slice none 0 0, .int .i64 1, .int .i64 0] 33)).heap.size = u0.heap.size + 1) := hidP (by simp)
  generalize u0.alloc (.cells #[.slice none 0 0, .slice none 0 0, .slice none 0 0, .int .i64 0, .int .i64 0, .slice none 0 0, .int .i64 1, .int .i64 0] 33) = Wsa at *
  have acc_Wsa := hidP (acc_u0.out.trans (ab_Wsa.mono acc_u0.out.size))
  have sz_Wsa : Hid (u0.heap.size ≤ Wsa.heap.size) := hidP ab_Wsa.size
  clear ab_Wsa acc_u0
  refine (implNew _).mono ?_
  rintro e u1 ⟨rfl, hb1⟩
  have sa0_u1 := (hb1.cell saL_Wsa).trans sa0_Wsa
  have sa1_u1 := (hb1.cell saL_Wsa).trans sa1_Wsa
  have sa2_u1 := (hb1.cell saL_Wsa).trans sa2_Wsa
  have sa3_u1 := (hb1.cell saL_Wsa).trans sa3_Wsa
  have sa4_u1 := (hb1.cell saL_Wsa).trans sa4_Wsa
  have sa5_u1 := (hb1.cell saL_Wsa).trans sa5_Wsa
  have sa6_u1 := (hb1.cell saL_Wsa).trans sa6_Wsa
  have sa7_u1 := (hb1.cell saL_Wsa).trans sa7_Wsa
  have saF_u1 : ∀ o, u1.frozen? ⟨u0.heap.size, o, none⟩ = false := fun o => (hb1.frozen saL_Wsa).trans (saF_Wsa o)
  have saL_u1 : u0.heap.size < u1.heap.size := Nat.lt_of_lt_of_le saL_Wsa hb1.size
  have acc_u1 := hidP (acc_Wsa.out.trans (hb1.mono acc_Wsa.out.size))
  have sz_u1 : Hid (Wsa.heap.size ≤ u1.heap.size) := hidP hb1.size
  clear hb1 sa0_Wsa sa1_Wsa sa2_Wsa sa3_Wsa sa4_Wsa sa5_Wsa sa6_Wsa sa7_Wsa saF_Wsa saL_Wsa acc_Wsa
  go_wp2_with fail
  obtain ⟨ia0_Wia, ia1_Wia, ia2_Wia, ia3_Wia, ia4_Wia, ia5_Wia, ia6_Wia, ia7_Wia⟩ := bx8 u1 33 (.slice none 0 0) (.slice none 0 0) (.slice none 0 0) (.int .i64 0) (.int .i64 0) (.slice none 0 0) (.int .i64 1) (.int .i64 0)
  have iaF_Wia : ∀ o, (u1.alloc (.cells #[.slice none 0 0, .slice none 0 0, .slice none 0 0, .int .i64 0, .int .i64 0, .slice none 0 0, .int .i64 1, .int .i64 0] 33)).frozen? ⟨u1.heap.size, o, none⟩ = false := fun o => by simp [go_sem]
  have iaL_Wia : u1.heap.size < (u1.alloc (.cells #[.slice none 0 0, .slice none 0 0, .slice none 0 0, .int .i64 0, .int .i64 0, .slice none 0 0, .int .i64 1, .int .i64 0] 33)).heap.size := by simp
  have ab_Wia := alloc_below u1 (.cells #[.slice none 0 0, .slice none 0 0, .slice none 0 0, .int .i64 0, .int .i64 0, .slice none 0 0, .int .i64 1, .int .i64 0] 33)
  have as_Wia : Hid ((u1.alloc (.cells #[.slice none 0 0, .slice none 0 0, .slice none 0 0, .int .i64 0, .int .i64 0, .slice none 0 0, .int .i64 1, .int .i64 0] 33)).heap.size = u1.heap.size + 1) := hidP (by simp)
  generalize u1.alloc (.cells #[.slice none 0 0, .slice none 0 0, .slice none 0 0, .int .i64 0, .int .i64 0, .slice none 0 0, .int .i64 1, .int .i64 0] 33) = Wia at *
  have sa0_Wia := (ab_Wia.cell saL_u1).trans sa0_u1
  have sa1_Wia := (ab_Wia.cell saL_u1).trans sa1_u1
  have sa2_Wia := (ab_Wia.cell saL_u1).trans sa2_u1
  have sa3_Wia := (ab_Wia.cell saL_u1).trans sa3_u1
  have sa4_Wia := (ab_Wia.cell saL_u1).trans sa4_u1
  have sa5_Wia := (ab_Wia.cell saL_u1).trans sa5_u1
  have sa6_Wia := (ab_Wia.cell saL_u1).trans sa6_u1
  have sa7_Wia := (ab_Wia.cell saL_u1).trans sa7_u1
  have saF_Wia : ∀ o, Wia.frozen? ⟨u0.heap.size, o, none⟩ = false := fun o => (ab_Wia.frozen saL_u1).trans (saF_u1 o)
  have saL_Wia : u0.heap.size < Wia.heap.size := Nat.lt_of_lt_of_le saL_u1 ab_Wia.size
  have acc_Wia := hidP (acc_u1.out.trans (ab_Wia.mono acc_u1.out.size))
  have sz_Wia : Hid (u1.heap.size ≤ Wia.heap.size) := hidP ab_Wia.size
  clear ab_Wia sa0_u1 sa1_u1 sa2_u1 sa3_u1 sa4_u1 sa5_u1 sa6_u1 sa7_u1 saF_u1 saL_u1 acc_u1
  refine (eqState_nil _).mono ?_
  rintro e u2 ⟨rfl, hb2⟩
  have sa0_u2 := (hb2.cell saL_Wia).trans sa0_Wia
  have sa1_u2 := (hb2.cell saL_Wia).trans sa1_Wia
  have sa2_u2 := (hb2.cell saL_Wia).trans sa2_Wia
  have sa3_u2 := (hb2.cell saL_Wia).trans sa3_Wia
  have sa4_u2 := (hb2.cell saL_Wia).trans sa4_Wia
  have sa5_u2 := (hb2.cell saL_Wia).trans sa5_Wia
  have sa6_u2 := (hb2.cell saL_Wia).trans sa6_Wia
  have sa7_u2 := (hb2.cell saL_Wia).trans sa7_Wia
  have saF_u2 : ∀ o, u2.frozen? ⟨u0.heap.size, o, none⟩ = false := fun o => (hb2.frozen saL_Wia).trans (saF_Wia o)
  have saL_u2 : u0.heap.size < u2.heap.size := Nat.lt_of_lt_of_le saL_Wia hb2.size
  have ia0_u2 := (hb2.cell iaL_Wia).trans ia0_Wia
  have ia1_u2 := (hb2.cell iaL_Wia).trans ia1_Wia
  have ia2_u2 := (hb2.cell iaL_Wia).trans ia2_Wia
  have ia3_u2 := (hb2.cell iaL_Wia).trans ia3_Wia
  have ia4_u2 := (hb2.cell iaL_Wia).trans ia4_Wia
  have ia5_u2 := (hb2.cell iaL_Wia).trans ia5_Wia
  have ia6_u2 := (hb2.cell iaL_Wia).trans ia6_Wia
  have ia7_u2 := (hb2.cell iaL_Wia).trans ia7_Wia
  have iaF_u2 : ∀ o, u2.frozen? ⟨u1.heap.size, o, none⟩ = false := fun o => (hb2.frozen iaL_Wia).trans (iaF_Wia o)
  have iaL_u2 : u1.heap.size < u2.heap.size := Nat.lt_of_lt_of_le iaL_Wia hb2.size
  have acc_u2 := hidP (acc_Wia.out.trans (hb2.mono acc_Wia.out.size))
  have sz_u2 : Hid (Wia.heap.size ≤ u2.heap.size) := hidP hb2.size
  clear hb2 sa0_Wia sa1_Wia sa2_Wia sa3_Wia sa4_Wia sa5_Wia sa6_Wia sa7_Wia saF_Wia saL_Wia ia0_Wia ia1_Wia ia2_Wia ia3_Wia ia4_Wia ia5_Wia ia6_Wia ia7_Wia iaF_Wia iaL_Wia acc_Wia
  go_wp2_with fail
  refine (markState_nil _).mono ?_
  rintro e u3 ⟨rfl, hb3⟩
  have sa0_u3 := (hb3.cell saL_u2).trans sa0_u2
  have sa1_u3 := (hb3.cell saL_u2).trans sa1_u2
  have sa2_u3 := (hb3.cell saL_u2).trans sa2_u2
  have sa3_u3 := (hb3.cell saL_u2).trans sa3_u2
  have sa4_u3 := (hb3.cell saL_u2).trans sa4_u2
  have sa5_u3 := (hb3.cell saL_u2).trans sa5_u2
  have sa6_u3 := (hb3.cell saL_u2).trans sa6_u2
  have sa7_u3 := (hb3.cell saL_u2).trans sa7_u2
  have saF_u3 : ∀ o, u3.frozen? ⟨u0.heap.size, o, none⟩ = false := fun o => (hb3.frozen saL_u2).trans (saF_u2 o)
  have saL_u3 : u0.heap.size < u3.heap.size := Nat.lt_of_lt_of_le saL_u2 hb3.size
  have ia0_u3 := (hb3.cell iaL_u2).trans ia0_u2
  have ia1_u3 := (hb3.cell iaL_u2).trans ia1_u2
  have ia2_u3 := (hb3.cell iaL_u2).trans ia2_u2
  have ia3_u3 := (hb3.cell iaL_u2).trans ia3_u2
  have ia4_u3 := (hb3.cell iaL_u2).trans ia4_u2
  have ia5_u3 := (hb3.cell iaL_u2).trans ia5_u2
  have ia6_u3 := (hb3.cell iaL_u2).trans ia6_u2
  have ia7_u3 := (hb3.cell iaL_u2).trans ia7_u2
  have iaF_u3 : ∀ o, u3.frozen? ⟨u1.heap.size, o, none⟩ = false := fun o => (hb3.frozen iaL_u2).trans (iaF_u2 o)
  have iaL_u3 : u1.heap.size < u3.heap.size := Nat.lt_of_lt_of_le iaL_u2 hb3.size
  have acc_u3 := hidP (acc_u2.out.trans (hb3.mono acc_u2.out.size))
  have sz_u3 : Hid (u2.heap.size ≤ u3.heap.size) := hidP hb3.size
  clear hb3 sa0_u2 sa1_u2 sa2_u2 sa3_u2 sa4_u2 sa5_u2 sa6_u2 sa7_u2 saF_u2 saL_u2 ia0_u2 ia1_u2 ia2_u2 ia3_u2 ia4_u2 ia5_u2 ia6_u2 ia7_u2 iaF_u2 iaL_u2 acc_u2
  go_wp2_with fail
  refine (heldState_nil _).mono ?_
  rintro e u4 ⟨rfl, hb4⟩
  have sa0_u4 := (hb4.cell saL_u3).trans sa0_u3
  have sa1_u4 := (hb4.cell saL_u3).trans sa1_u3
  have sa2_u4 := (hb4.cell saL_u3).trans sa2_u3
  have sa3_u4 := (hb4.cell saL_u3).trans sa3_u3
  have sa4_u4 := (hb4.cell saL_u3).trans sa4_u3
  have sa5_u4 := (hb4.cell saL_u3).trans sa5_u3
  have sa6_u4 := (hb4.cell saL_u3).trans sa6_u3
  have sa7_u4 := (hb4.cell saL_u3).trans sa7_u3
  have saF_u4 : ∀ o, u4.frozen? ⟨u0.heap.size, o, none⟩ = false := fun o => (hb4.frozen saL_u3).trans (saF_u3 o)
  have saL_u4 : u0.heap.size < u4.heap.size := Nat.lt_of_lt_of_le saL_u3 hb4.size
  have ia0_u4 := (hb4.cell iaL_u3).trans ia0_u3
  have ia1_u4 := (hb4.cell iaL_u3).trans ia1_u3
  have ia2_u4 := (hb4.cell iaL_u3).trans ia2_u3
  have ia3_u4 := (hb4.cell iaL_u3).trans ia3_u3
  have ia4_u4 := (hb4.cell iaL_u3).trans ia4_u3
  have ia5_u4 := (hb4.cell iaL_u3).trans ia5_u3
  have ia6_u4 := (hb4.cell iaL_u3).trans ia6_u3
  have ia7_u4 := (hb4.cell iaL_u3).trans ia7_u3
  have iaF_u4 : ∀ o, u4.frozen? ⟨u1.heap.size, o, none⟩ = false := fun o => (hb4.frozen iaL_u3).trans (iaF_u3 o)
  have iaL_u4 : u1.heap.size < u4.heap.size := Nat.lt_of_lt_of_le iaL_u3 hb4.size
  have acc_u4 := hidP (acc_u3.out.trans (hb4.mono acc_u3.out.size))
  have sz_u4 : Hid (u3.heap.size ≤ u4.heap.size) := hidP hb4.size
  clear hb4 sa0_u3 sa1_u3 sa2_u3 sa3_u3 sa4_u3 sa5_u3 sa6_u3 sa7_u3 saF_u3 saL_u3 ia0_u3 ia1_u3 ia2_u3 ia3_u3 ia4_u3 ia5_u3 ia6_u3 ia7_u3 iaF_u3 iaL_u3 acc_u3
  go_wp2_with fail
  refine (implNew _).mono ?_
  rintro e u5 ⟨rfl, hb5⟩
  have sa0_u5 := (hb5.cell saL_u4).trans sa0_u4
  have sa1_u5 := (hb5.cell saL_u4).trans sa1_u4
  have sa2_u5 := (hb5.cell saL_u4).trans sa2_u4
  have sa3_u5 := (hb5.cell saL_u4).trans sa3_u4
  have sa4_u5 := (hb5.cell saL_u4).trans sa4_u4
  have sa5_u5 := (hb5.cell saL_u4).trans sa5_u4
  have sa6_u5 := (hb5.cell saL_u4).trans sa6_u4
  have sa7_u5 := (hb5.cell saL_u4).trans sa7_u4
  have saF_u5 : ∀ o, u5.frozen? ⟨u0.heap.size, o, none⟩ = false := fun o => (hb5.frozen saL_u4).trans (saF_u4 o)
  have saL_u5 : u0.heap.size < u5.heap.size := Nat.lt_of_lt_of_le saL_u4 hb5.size
  have ia0_u5 := (hb5.cell iaL_u4).trans ia0_u4
  have ia1_u5 := (hb5.cell iaL_u4).trans ia1_u4
  have ia2_u5 := (hb5.cell iaL_u4).trans ia2_u4
  have ia3_u5 := (hb5.cell iaL_u4).trans ia3_u4
  have ia4_u5 := (hb5.cell iaL_u4).trans ia4_u4
  have ia5_u5 := (hb5.cell iaL_u4).trans ia5_u4
  have ia6_u5 := (hb5.cell iaL_u4).trans ia6_u4
  have ia7_u5 := (hb5.cell iaL_u4).trans ia7_u4
  have iaF_u5 : ∀ o, u5.frozen? ⟨u1.heap.size, o, none⟩ = false := fun o => (hb5.frozen iaL_u4).trans (iaF_u4 o)
  have iaL_u5 : u1.heap.size < u5.heap.size := Nat.lt_of_lt_of_le iaL_u4 hb5.size
  have acc_u5 := hidP (acc_u4.out.trans (hb5.mono acc_u4.out.size))
  have sz_u5 : Hid (u4.heap.size ≤ u5.heap.size) := hidP hb5.size
  clear hb5 sa0_u4 sa1_u4 sa2_u4 sa3_u4 sa4_u4 sa5_u4 sa6_u4 sa7_u4 saF_u4 saL_u4 ia0_u4 ia1_u4 ia2_u4 ia3_u4 ia4_u4 ia5_u4 ia6_u4 ia7_u4 iaF_u4 iaL_u4 acc_u4
  go_wp2_with fail
  obtain ⟨ja0_Wja, ja1_Wja, ja2_Wja, ja3_Wja, ja4_Wja, ja5_Wja, ja6_Wja, ja7_Wja⟩ := bx8 u5 33 (.slice none 0 0) (.slice none 0 0) (.slice none 0 0) (.int .i64 0) (.int .i64 0) (.slice none 0 0) (.int .i64 1) (.int .i64 0)
  have jaF_Wja : ∀ o, (u5.alloc (.cells #[.slice none 0 0, .slice none 0 0, .slice none 0 0, .int .i64 0, .int .i64 0, .slice none 0 0, .int .i64 1, .int .i64 0] 33)).frozen? ⟨u5.heap.size, o, none⟩ = false := fun o => by simp [go_sem]
  have jaL_Wja : u5.heap.size < (u5.alloc (.cells #[.slice none 0 0, .slice none 0 0, .slice none 0 0, .int .i64 0, .int .i64 0, .slice none 0 0, .int .i64 1, .int .i64 0] 33)).heap.size := by simp
  have ab_Wja := alloc_below u5 (.cells #[.slice none 0 0, .slice none 0 0, .slice none 0 0, .int .i64 0, .int .i64 0, .slice none 0 0, .int .i64 1, .int .i64 0] 33)
  have as_Wja : Hid ((u5.alloc (.cells #[.slice none 0 0, .slice none 0 0, .slice none 0 0, .int .i64 0, .int .i64 0, .slice none 0 0, .int .i64 1, .int .i64 0] 33)).heap.size = u5.heap.size + 1) := hidP (by simp)
  generalize u5.alloc (.cells #[.slice none 0 0, .slice none 0 0, .slice none 0 0, .int .i64 0, .int .i64 0, .slice none 0 0, .int .i64 1, .int .i64 0] 33) = Wja at *
  have sa0_Wja := (ab_Wja.cell saL_u5).trans sa0_u5
  have sa1_Wja := (ab_Wja.cell saL_u5).trans sa1_u5
  have sa2_Wja := (ab_Wja.cell saL_u5).trans sa2_u5
  have sa3_Wja := (ab_Wja.cell saL_u5).trans sa3_u5
  have sa4_Wja := (ab_Wja.cell saL_u5).trans sa4_u5
  have sa5_Wja := (ab_Wja.cell saL_u5).trans sa5_u5
  have sa6_Wja := (ab_Wja.cell saL_u5).trans sa6_u5
  have sa7_Wja := (ab_Wja.cell saL_u5).trans sa7_u5
  have saF_Wja : ∀ o, Wja.frozen? ⟨u0.heap.size, o, none⟩ = false := fun o => (ab_Wja.frozen saL_u5).trans (saF_u5 o)
  have saL_Wja : u0.heap.size < Wja.heap.size := Nat.lt_of_lt_of_le saL_u5 ab_Wja.size
  have ia0_Wja := (ab_Wja.cell iaL_u5).trans ia0_u5
  have ia1_Wja := (ab_Wja.cell iaL_u5).trans ia1_u5
  have ia2_Wja := (ab_Wja.cell iaL_u5).trans ia2_u5
  have ia3_Wja := (ab_Wja.cell iaL_u5).trans ia3_u5
  have ia4_Wja := (ab_Wja.cell iaL_u5).trans ia4_u5
  have ia5_Wja := (ab_Wja.cell iaL_u5).trans ia5_u5
  have ia6_Wja := (ab_Wja.cell iaL_u5).trans ia6_u5
  have ia7_Wja := (ab_Wja.cell iaL_u5).trans ia7_u5
  have iaF_Wja : ∀ o, Wja.frozen? ⟨u1.heap.size, o, none⟩ = false := fun o => (ab_Wja.frozen iaL_u5).trans (iaF_u5 o)
  have iaL_Wja : u1.heap.size < Wja.heap.size := Nat.lt_of_lt_of_le iaL_u5 ab_Wja.size
  have acc_Wja := hidP (acc_u5.out.trans (ab_Wja.mono acc_u5.out.size))
  have sz_Wja : Hid (u5.heap.size ≤ Wja.heap.size) := hidP ab_Wja.size
  clear ab_Wja sa0_u5 sa1_u5 sa2_u5 sa3_u5 sa4_u5 sa5_u5 sa6_u5 sa7_u5 saF_u5 saL_u5 ia0_u5 ia1_u5 ia2_u5 ia3_u5 ia4_u5 ia5_u5 ia6_u5 ia7_u5 iaF_u5 iaL_u5 acc_u5
  refine (eqState_nil _).mono ?_
  rintro e u6 ⟨rfl, hb6⟩
  have sa0_u6 := (hb6.cell saL_Wja).trans sa0_Wja
  have sa1_u6 := (hb6.cell saL_Wja).trans sa1_Wja
  have sa2_u6 := (hb6.cell saL_Wja).trans sa2_Wja
  have sa3_u6 := (hb6.cell saL_Wja).trans sa3_Wja
  have sa4_u6 := (hb6.cell saL_Wja).trans sa4_Wja
  have sa5_u6 := (hb6.cell saL_Wja).trans sa5_Wja
  have sa6_u6 := (hb6.cell saL_Wja).trans sa6_Wja
  have sa7_u6 := (hb6.cell saL_Wja).trans sa7_Wja
  have saF_u6 : ∀ o, u6.frozen? ⟨u0.heap.size, o, none⟩ = false := fun o => (hb6.frozen saL_Wja).trans (saF_Wja o)
  have saL_u6 : u0.heap.size < u6.heap.size := Nat.lt_of_lt_of_le saL_Wja hb6.size
  have ia0_u6 := (hb6.cell iaL_Wja).trans ia0_Wja
  have ia1_u6 := (hb6.cell iaL_Wja).trans ia1_Wja
  have ia2_u6 := (hb6.cell iaL_Wja).trans ia2_Wja
  have ia3_u6 := (hb6.cell iaL_Wja).trans ia3_Wja
  have ia4_u6 := (hb6.cell iaL_Wja).trans ia4_Wja
  have ia5_u6 := (hb6.cell iaL_Wja).trans ia5_Wja
  have ia6_u6 := (hb6.cell iaL_Wja).trans ia6_Wja
  have ia7_u6 := (hb6.cell iaL_Wja).trans ia7_Wja
  have iaF_u6 : ∀ o, u6.frozen? ⟨u1.heap.size, o, none⟩ = false := fun o => (hb6.frozen iaL_Wja).trans (iaF_Wja o)
  have iaL_u6 : u1.heap.size < u6.heap.size := Nat.lt_of_lt_of_le iaL_Wja hb6.size
  have ja0_u6 := (hb6.cell jaL_Wja).trans ja0_Wja
  have ja1_u6 := (hb6.cell jaL_Wja).trans ja1_Wja
  have ja2_u6 := (hb6.cell jaL_Wja).trans ja2_Wja
  have ja3_u6 := (hb6.cell jaL_Wja).trans ja3_Wja
  have ja4_u6 := (hb6.cell jaL_Wja).trans ja4_Wja
  have ja5_u6 := (hb6.cell jaL_Wja).trans ja5_Wja
  have ja6_u6 := (hb6.cell jaL_Wja).trans ja6_Wja
  have ja7_u6 := (hb6.cell jaL_Wja).trans ja7_Wja
  have jaF_u6 : ∀ o, u6.frozen? ⟨u5.heap.size, o, none⟩ = false := fun o => (hb6.frozen jaL_Wja).trans (jaF_Wja o)
  have jaL_u6 : u5.heap.size < u6.heap.size := Nat.lt_of_lt_of_le jaL_Wja hb6.size
  have acc_u6 := hidP (acc_Wja.out.trans (hb6.mono acc_Wja.out.size))
  have sz_u6 : Hid (Wja.heap.size ≤ u6.heap.size) := hidP hb6.size
  clear hb6 sa0_Wja sa1_Wja sa2_Wja sa3_Wja sa4_Wja sa5_Wja sa6_Wja sa7_Wja saF_Wja saL_Wja ia0_Wja ia1_Wja ia2_Wja ia3_Wja ia4_Wja ia5_Wja ia6_Wja ia7_Wja iaF_Wja iaL_Wja ja0_Wja ja1_Wja ja2_Wja ja3_Wja ja4_Wja ja5_Wja ja6_Wja ja7_Wja jaF_Wja jaL_Wja acc_Wja
  go_wp2_with fail
  refine (heldState_nil _).mono ?_
  rintro e u7 ⟨rfl, hb7⟩
  have sa0_u7 := (hb7.cell saL_u6).trans sa0_u6
  have sa1_u7 := (hb7.cell saL_u6).trans sa1_u6
  have sa2_u7 := (hb7.cell saL_u6).trans sa2_u6
  have sa3_u7 := (hb7.cell saL_u6).trans sa3_u6
  have sa4_u7 := (hb7.cell saL_u6).trans sa4_u6
  have sa5_u7 := (hb7.cell saL_u6).trans sa5_u6
  have sa6_u7 := (hb7.cell saL_u6).trans sa6_u6
  have sa7_u7 := (hb7.cell saL_u6).trans sa7_u6
  have saF_u7 : ∀ o, u7.frozen? ⟨u0.heap.size, o, none⟩ = false := fun o => (hb7.frozen saL_u6).trans (saF_u6 o)
  have saL_u7 : u0.heap.size < u7.heap.size := Nat.lt_of_lt_of_le saL_u6 hb7.size
  have ia0_u7 := (hb7.cell iaL_u6).trans ia0_u6
  have ia1_u7 := (hb7.cell iaL_u6).trans ia1_u6
  have ia2_u7 := (hb7.cell iaL_u6).trans ia2_u6
  have ia3_u7 := (hb7.cell iaL_u6).trans ia3_u6
  have ia4_u7 := (hb7.cell iaL_u6).trans ia4_u6
  have ia5_u7 := (hb7.cell iaL_u6).trans ia5_u6
  have ia6_u7 := (hb7.cell iaL_u6).trans ia6_u6
  have ia7_u7 := (hb7.cell iaL_u6).trans ia7_u6
  have iaF_u7 : ∀ o, u7.frozen? ⟨u1.heap.size, o, none⟩ = false := fun o => (hb7.frozen iaL_u6).trans (iaF_u6 o)
  have iaL_u7 : u1.heap.size < u7.heap.size := Nat.lt_of_lt_of_le iaL_u6 hb7.size
  have ja0_u7 := (hb7.cell jaL_u6).trans ja0_u6
  have ja1_u7 := (hb7.cell jaL_u6).trans ja1_u6
  have ja2_u7 := (hb7.cell jaL_u6).trans ja2_u6
  have ja3_u7 := (hb7.cell jaL_u6).trans ja3_u6
  have ja4_u7 := (hb7.cell jaL_u6).trans ja4_u6
  have ja5_u7 := (hb7.cell jaL_u6).trans ja5_u6
  have ja6_u7 := (hb7.cell jaL_u6).trans ja6_u6
  have ja7_u7 := (hb7.cell jaL_u6).trans ja7_u6
  have jaF_u7 : ∀ o, u7.frozen? ⟨u5.heap.size, o, none⟩ = false := fun o => (hb7.frozen jaL_u6).trans (jaF_u6 o)
  have jaL_u7 : u5.heap.size < u7.heap.size := Nat.lt_of_lt_of_le jaL_u6 hb7.size
  have acc_u7 := hidP (acc_u6.out.trans (hb7.mono acc_u6.out.size))
  have sz_u7 : Hid (u6.heap.size ≤ u7.heap.size) := hidP hb7.size
  clear hb7 sa0_u6 sa1_u6 sa2_u6 sa3_u6 sa4_u6 sa5_u6 sa6_u6 sa7_u6 saF_u6 saL_u6 ia0_u6 ia1_u6 ia2_u6 ia3_u6 ia4_u6 ia5_u6 ia6_u6 ia7_u6 iaF_u6 iaL_u6 ja0_u6 ja1_u6 ja2_u6 ja3_u6 ja4_u6 ja5_u6 ja6_u6 ja7_u6 jaF_u6 jaL_u6 acc_u6
  go_wp2_with fail
  go_ret
  exact ⟨rfl, acc_u7.out⟩

theorem Try.ownS9 : ownKnob Try.prog.godebug = none := by kernel_rfl
set_option maxRecDepth 100000 in
theorem stateNew_lifted (os : Os) (started : os.Started) (H : Type) (enc : TypeId × Value → H) :
    ReturnsInHanded {} Try.checked os 3 .any (Rows.fnExactStateNewSpec.pre6 enc Try.prog Try.f3 Rows.fnExactStateNewRow.domain false) (Rows.fnExactStateNewSpec.post enc Try.prog Try.f3 false true false false) := by
  refine returnsInHanded_of_change (C := Try.checked) Try.ownS9 started (by kernel_rfl) Try.func3
    (ChangeSpec.witness6 (enc := enc) (C := Try.checked) false ⟨#[], #[], []⟩ 8 (by kernel_rfl) (by kernel_rfl) (by kernel_rfl) (by kernel_rfl)) ?_
  intro W base args ds gs before hval0 hW _ _
  have hW' := hW
  obtain ⟨p, q, hA0, hV, rfl, _, _⟩ := hW
  have hA : DataW.TrodAll enc Try.prog W 0 (fun _ => true) true Try.f3.params.toList args.toList ds p := hA0
  rw [Try.params3] at hA
  obtain ⟨rfl, rfl, rfl⟩ := trodAll_none hA
  obtain ⟨rfl, rfl⟩ := trodVars_none hV
  clear hA0 hval0
  simp only [List.append_nil] at hW'
  refine (lawStateNew W).mono fun e W' ⟨he, hb⟩ => ?_
  subst he
  exact ⟨_, rfl, ⟨_, _, _, [], [], [], hW', trodAll_mk1 (shut_bool Try.underlying4 true), trodAll_mk0, rfl, hb.frame _, fun h => by cases h⟩⟩

theorem stateNew_holds : Rows.FnExactStateNewSaid :=
  OpenClaim.holds_of_wide 3 Try.f3 rfl rfl rfl rfl rfl rfl rfl ⟨rfl, rfl, rfl, rfl, rfl⟩ rfl rfl rfl rfl rfl (by kernel_rfl) Try.func3 (by kernel_rfl)
    (of_decide_eq_true (by kernel_rfl)) (by unfold Func.isWrapper; rw [if_neg (of_decide_eq_false (by kernel_rfl))]; exact ⟨rfl, rfl⟩)
    (fun os started H enc _ => stateNew_lifted os started H enc)

end Go.Proofs.Ytplocbpngikohaa
