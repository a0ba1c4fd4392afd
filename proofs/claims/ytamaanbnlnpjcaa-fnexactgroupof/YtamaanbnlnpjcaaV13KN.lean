/-
  Looks at Keeps that have no entries and no snapshot, their marks; both KeepNew.
-/
import Derived.Test.YtamaanbnlnpjcaaV12G
import Derived.Test.YtamaanbnlnpjcaaV12Own
namespace Go.Proofs.Ytamaanbnlnpjcaa
open Go.ChangeShapes Go.WideShapes Go.ChangeAt Go.RowKit Go.Joins Go.Deep

theorem box8K (w : World) (t : TypeId) (x0 x1 x2 x3 x4 x5 x6 x7 : Value) : (w.alloc (.cells #[x0, x1, x2, x3, x4, x5, x6, x7] t)).cell? ⟨w.heap.size, 0, none⟩ = some x0 ∧ (w.alloc (.cells #[x0, x1, x2, x3, x4, x5, x6, x7] t)).cell? ⟨w.heap.size, 1, none⟩ = some x1 ∧ (w.alloc (.cells #[x0, x1, x2, x3, x4, x5, x6, x7] t)).cell? ⟨w.heap.size, 2, none⟩ = some x2 ∧ (w.alloc (.cells #[x0, x1, x2, x3, x4, x5, x6, x7] t)).cell? ⟨w.heap.size, 3, none⟩ = some x3 ∧ (w.alloc (.cells #[x0, x1, x2, x3, x4, x5, x6, x7] t)).cell? ⟨w.heap.size, 4, none⟩ = some x4 ∧ (w.alloc (.cells #[x0, x1, x2, x3, x4, x5, x6, x7] t)).cell? ⟨w.heap.size, 5, none⟩ = some x5 ∧ (w.alloc (.cells #[x0, x1, x2, x3, x4, x5, x6, x7] t)).cell? ⟨w.heap.size, 6, none⟩ = some x6 ∧ (w.alloc (.cells #[x0, x1, x2, x3, x4, x5, x6, x7] t)).cell? ⟨w.heap.size, 7, none⟩ = some x7 := ⟨by simp [go_sem], by simp [go_sem], by simp [go_sem], by simp [go_sem], by simp [go_sem], by simp [go_sem], by simp [go_sem], by simp [go_sem]⟩
theorem eqE0  (w : World) : Calls Try.prog 54 #[.slice none 0 0, .slice none 0 0] w fun e w' => e = .returned (.bool true) ∧ w = w' := by
  go_enter Try.func54, Try.ntmps54
  go_wp2
  go_loop [5] (fun t5 => t5 = .int .i64 0) (fun _ => 0)
  case atStart => rfl
  case round =>
    subst hrel
    go_wp2
    go_ret
    exact ⟨rfl, rfl⟩
theorem eqY0  (w : World) : Calls Try.prog 53 #[.slice none 0 0, .slice none 0 0] w fun e w' => e = .returned (.bool true) ∧ w = w' := by
  go_enter Try.func53, Try.ntmps53
  go_wp2
  go_loop [5] (fun t5 => t5 = .int .i64 0) (fun _ => 0)
  case atStart => rfl
  case round =>
    subst hrel
    go_wp2
    go_ret
    exact ⟨rfl, rfl⟩
theorem mkE0 (k : Int) (w : World) : Calls Try.prog 60 #[.slice none 0 0, .int .i64 k] w fun e w' => e = .returned (.int .i64 k) ∧ w = w' := by
  go_enter Try.func60, Try.ntmps60
  go_wp2
  go_loop [1, 5] (fun t1 t5 => t1 = .int .i64 k ∧ t5 = .int .i64 0) (fun _ _ => 0)
  case atStart => exact ⟨rfl, rfl⟩
  case round =>
    obtain ⟨rfl, rfl⟩ := hrel
    go_wp2
    go_ret
    exact ⟨rfl, rfl⟩
theorem mkY0 (k : Int) (w : World) : Calls Try.prog 59 #[.slice none 0 0, .int .i64 k] w fun e w' => e = .returned (.int .i64 k) ∧ w = w' := by
  go_enter Try.func59, Try.ntmps59
  go_wp2
  go_loop [1, 5] (fun t1 t5 => t1 = .int .i64 k ∧ t5 = .int .i64 0) (fun _ _ => 0)
  case atStart => exact ⟨rfl, rfl⟩
  case round =>
    obtain ⟨rfl, rfl⟩ := hrel
    go_wp2
    go_ret
    exact ⟨rfl, rfl⟩
theorem hdE0 (k : Int) (w : World) : Calls Try.prog 94 #[.slice none 0 0, .int .i64 k] w fun e w' => e = .returned (.int .i64 k) ∧ w = w' := by
  go_enter Try.func94, Try.ntmps94
  go_wp2
  go_loop [1, 5] (fun t1 t5 => t1 = .int .i64 k ∧ t5 = .int .i64 0) (fun _ _ => 0)
  case atStart => exact ⟨rfl, rfl⟩
  case round =>
    obtain ⟨rfl, rfl⟩ := hrel
    go_wp2
    go_ret
    exact ⟨rfl, rfl⟩
theorem hdY0 (k : Int) (w : World) : Calls Try.prog 93 #[.slice none 0 0, .int .i64 k] w fun e w' => e = .returned (.int .i64 k) ∧ w = w' := by
  go_enter Try.func93, Try.ntmps93
  go_wp2
  go_loop [1, 5] (fun t1 t5 => t1 = .int .i64 k ∧ t5 = .int .i64 0) (fun _ _ => 0)
  case atStart => exact ⟨rfl, rfl⟩
  case round =>
    obtain ⟨rfl, rfl⟩ := hrel
    go_wp2
    go_ret
    exact ⟨rfl, rfl⟩
set_option maxRecDepth 10000 in
set_option maxHeartbeats 2000000 in
theorem eqKeepN (a a' : Option Addr) (NP c c' : Nat) (b b' : Option Addr) (NB d d' : Nat) (PS BS : List Int) (w : World) (hnp : NP = PS.length) (hnb : NB = BS.length) (hP : RowG KI w a PS) (hP' : RowG KI w a' PS) (hK : RowG KI w b BS) (hK' : RowG KI w b' BS) (hl : NP ≤ 9000000000) (hl' : NB ≤ 9000000000) :
    Calls Try.prog 19 #[.agg #[.int .i64 0, .int .i64 0, .int .i64 0, .int .i64 0, .slice a NP c, .slice b NB d, .slice none 0 0, .slice none 0 0], .agg #[.int .i64 0, .int .i64 0, .int .i64 0, .int .i64 0, .slice a' NP c', .slice b' NB d', .slice none 0 0, .slice none 0 0]] w fun e w' => e = .returned (.bool true) ∧ Below w.heap.size w w' := by
  have HG := hidP (fun W h => eqGroup_same a a' NP c c' b b' NB d d' PS BS W hnp hnb (RowG.later hP h) (RowG.later hP' h) (RowG.later hK h) (RowG.later hK' h) hl hl')
  clear hP hP' hK hK' hnp hnb
  go_enter Try.func19, Try.ntmps19
  go_wp2_with fail
  obtain ⟨xa0_W1, xa1_W1, xa2_W1, xa3_W1, xa4_W1, xa5_W1, xa6_W1, xa7_W1⟩ := box8K w 29 (.int .i64 0) (.int .i64 0) (.int .i64 0) (.int .i64 0) (.slice a NP c) (.slice b NB d) (.slice none 0 0) (.slice none 0 0)
  have xaF_W1 : ∀ o, (w.alloc (.cells #[.int .i64 0, .int .i64 0, .int .i64 0, .int .i64 0, .slice a NP c, .slice b NB d, .slice none 0 0, .slice none 0 0] 29)).frozen? ⟨w.heap.size, o, none⟩ = false := fun o => by simp [go_sem]
  have xaL_W1 : w.heap.size < (w.alloc (.cells #[.int .i64 0, .int .i64 0, .int .i64 0, .int .i64 0, .slice a NP c, .slice b NB d, .slice none 0 0, .slice none 0 0] 29)).heap.size := by simp
  have ab_W1 := alloc_below w (.cells #[.int .i64 0, .int .i64 0, .int .i64 0, .int .i64 0, .slice a NP c, .slice b NB d, .slice none 0 0, .slice none 0 0] 29)
  have as_W1 : Hid ((w.alloc (.cells #[.int .i64 0, .int .i64 0, .int .i64 0, .int .i64 0, .slice a NP c, .slice b NB d, .slice none 0 0, .slice none 0 0] 29)).heap.size = w.heap.size + 1) := hidP (by simp)
  generalize w.alloc (.cells #[.int .i64 0, .int .i64 0, .int .i64 0, .int .i64 0, .slice a NP c, .slice b NB d, .slice none 0 0, .slice none 0 0] 29) = W1 at *
  have acc_W1 := hidP (ab_W1)
  have sz_W1 : Hid (w.heap.size ≤ W1.heap.size) := hidP ab_W1.size
  clear ab_W1 
  obtain ⟨ya0_W2, ya1_W2, ya2_W2, ya3_W2, ya4_W2, ya5_W2, ya6_W2, ya7_W2⟩ := box8K W1 29 (.int .i64 0) (.int .i64 0) (.int .i64 0) (.int .i64 0) (.slice a' NP c') (.slice b' NB d') (.slice none 0 0) (.slice none 0 0)
  have yaF_W2 : ∀ o, (W1.alloc (.cells #[.int .i64 0, .int .i64 0, .int .i64 0, .int .i64 0, .slice a' NP c', .slice b' NB d', .slice none 0 0, .slice none 0 0] 29)).frozen? ⟨W1.heap.size, o, none⟩ = false := fun o => by simp [go_sem]
  have yaL_W2 : W1.heap.size < (W1.alloc (.cells #[.int .i64 0, .int .i64 0, .int .i64 0, .int .i64 0, .slice a' NP c', .slice b' NB d', .slice none 0 0, .slice none 0 0] 29)).heap.size := by simp
  have ab_W2 := alloc_below W1 (.cells #[.int .i64 0, .int .i64 0, .int .i64 0, .int .i64 0, .slice a' NP c', .slice b' NB d', .slice none 0 0, .slice none 0 0] 29)
  have as_W2 : Hid ((W1.alloc (.cells #[.int .i64 0, .int .i64 0, .int .i64 0, .int .i64 0, .slice a' NP c', .slice b' NB d', .slice none 0 0, .slice none 0 0] 29)).heap.size = W1.heap.size + 1) := hidP (by simp)
  generalize W1.alloc (.cells #[.int .i64 0, .int .i64 0, .int .i64 0, .int .i64 0, .slice a' NP c', .slice b' NB d', .slice none 0 0, .slice none 0 0] 29) = W2 at *
  have xa0_W2 := (ab_W2.cell xaL_W1).trans xa0_W1
  have xa1_W2 := (ab_W2.cell xaL_W1).trans xa1_W1
  have xa2_W2 := (ab_W2.cell xaL_W1).trans xa2_W1
  have xa3_W2 := (ab_W2.cell xaL_W1).trans xa3_W1
  have xa4_W2 := (ab_W2.cell xaL_W1).trans xa4_W1
  have xa5_W2 := (ab_W2.cell xaL_W1).trans xa5_W1
  have xa6_W2 := (ab_W2.cell xaL_W1).trans xa6_W1
  have xa7_W2 := (ab_W2.cell xaL_W1).trans xa7_W1
  have xaF_W2 : ∀ o, W2.frozen? ⟨w.heap.size, o, none⟩ = false := fun o => (ab_W2.frozen xaL_W1).trans (xaF_W1 o)
  have xaL_W2 : w.heap.size < W2.heap.size := Nat.lt_of_lt_of_le xaL_W1 ab_W2.size
  have acc_W2 := hidP (acc_W1.out.trans (ab_W2.mono acc_W1.out.size))
  have sz_W2 : Hid (W1.heap.size ≤ W2.heap.size) := hidP ab_W2.size
  clear ab_W2 xa0_W1 xa1_W1 xa2_W1 xa3_W1 xa4_W1 xa5_W1 xa6_W1 xa7_W1 xaF_W1 xaL_W1 acc_W1
  rw [as_W1.out] at ya0_W2 ya1_W2 ya2_W2 ya3_W2 ya4_W2 ya5_W2 ya6_W2 ya7_W2 yaL_W2
  have yaF_W2' : ∀ o, W2.frozen? ⟨w.heap.size + 1, o, none⟩ = false := fun o => by have := yaF_W2 o; rw [as_W1.out] at this; exact this
  clear yaF_W2
  have yaF_W2 := yaF_W2'
  clear yaF_W2'
  refine (HG.out _ acc_W2.out).mono ?_
  rintro e w3 ⟨rfl, hb3⟩
  have xa0_w3 := (hb3.cell xaL_W2).trans xa0_W2
  have xa1_w3 := (hb3.cell xaL_W2).trans xa1_W2
  have xa2_w3 := (hb3.cell xaL_W2).trans xa2_W2
  have xa3_w3 := (hb3.cell xaL_W2).trans xa3_W2
  have xa4_w3 := (hb3.cell xaL_W2).trans xa4_W2
  have xa5_w3 := (hb3.cell xaL_W2).trans xa5_W2
  have xa6_w3 := (hb3.cell xaL_W2).trans xa6_W2
  have xa7_w3 := (hb3.cell xaL_W2).trans xa7_W2
  have xaF_w3 : ∀ o, w3.frozen? ⟨w.heap.size, o, none⟩ = false := fun o => (hb3.frozen xaL_W2).trans (xaF_W2 o)
  have xaL_w3 : w.heap.size < w3.heap.size := Nat.lt_of_lt_of_le xaL_W2 hb3.size
  have ya0_w3 := (hb3.cell yaL_W2).trans ya0_W2
  have ya1_w3 := (hb3.cell yaL_W2).trans ya1_W2
  have ya2_w3 := (hb3.cell yaL_W2).trans ya2_W2
  have ya3_w3 := (hb3.cell yaL_W2).trans ya3_W2
  have ya4_w3 := (hb3.cell yaL_W2).trans ya4_W2
  have ya5_w3 := (hb3.cell yaL_W2).trans ya5_W2
  have ya6_w3 := (hb3.cell yaL_W2).trans ya6_W2
  have ya7_w3 := (hb3.cell yaL_W2).trans ya7_W2
  have yaF_w3 : ∀ o, w3.frozen? ⟨w.heap.size + 1, o, none⟩ = false := fun o => (hb3.frozen yaL_W2).trans (yaF_W2 o)
  have yaL_w3 : w.heap.size + 1 < w3.heap.size := Nat.lt_of_lt_of_le yaL_W2 hb3.size
  have acc_w3 := hidP (acc_W2.out.trans (hb3.mono acc_W2.out.size))
  have sz_w3 : Hid (W2.heap.size ≤ w3.heap.size) := hidP hb3.size
  clear hb3 xa0_W2 xa1_W2 xa2_W2 xa3_W2 xa4_W2 xa5_W2 xa6_W2 xa7_W2 xaF_W2 xaL_W2 ya0_W2 ya1_W2 ya2_W2 ya3_W2 ya4_W2 ya5_W2 ya6_W2 ya7_W2 yaF_W2 yaL_W2 acc_W2
  go_wp2_with fail
  refine (eqY0 _).mono ?_
  rintro e w4 ⟨rfl, rfl⟩
  go_wp2_with fail
  refine (eqE0 _).mono ?_
  rintro e w5 ⟨rfl, rfl⟩
  go_wp2_with fail
  go_ret
  exact ⟨rfl, acc_w3.out⟩

set_option maxRecDepth 10000 in
set_option maxHeartbeats 2000000 in
theorem markKeepN (a : Option Addr) (NP c : Nat) (b : Option Addr) (NB d : Nat) (PS BS : List Int) (B : Nat) (w : World) (hnp : NP = PS.length) (hnb : NB = BS.length) (hO1 : OwnG KI 3 w B (.slice a NP c) PS) (hO2 : OwnG KI 3 w B (.slice b NB d) BS) (hne : ∀ k, (Value.slice a NP c).ownBlock = some k → (Value.slice b NB d).ownBlock ≠ some k) (hl : NP ≤ 1048577) (hl' : NB ≤ 1048577) :
    Calls Try.prog 24 #[.agg #[.int .i64 0, .int .i64 0, .int .i64 0, .int .i64 0, .slice a NP c, .slice b NB d, .slice none 0 0, .slice none 0 0], .int .i64 1] w fun e w' => e = .returned (.int .i64 (1 + NP + NB)) ∧ OwnG KI 3 w' B (.slice a NP c) (mksG (mkI 1) NP) ∧ OwnG KI 3 w' B (.slice b NB d) (mksG (mkI (1 + NP)) NB) ∧ ∃ wm, w.grownBy wm (Value.slice a NP c).ownBlock ∧ wm.grownBy w' (Value.slice b NB d).ownBlock := by
  have l1 := hidP (fun k hk => (OwnG.lt hO1 k hk).2)
  have l2 := hidP (fun k hk => (OwnG.lt hO2 k hk).2)
  have HM := hidP (fun W (h : Below w.heap.size w W) => markGroup_any a NP c b NB d PS BS B 1 W hnp hnb (OwnG.later hO1 h) (OwnG.later hO2 h) hne (by omega) (by omega) (by omega) (by omega))
  clear hO1 hO2 hne hnp hnb
  have HI : Hid ((1 : Int) + (NP : Int) + (NB : Int) ≤ 9223372036854775807) := hidP (by omega)
  go_enter Try.func24, Try.ntmps24
  go_wp2_with fail
  obtain ⟨xa0_W1, xa1_W1, xa2_W1, xa3_W1, xa4_W1, xa5_W1, xa6_W1, xa7_W1⟩ := box8K w 29 (.int .i64 0) (.int .i64 0) (.int .i64 0) (.int .i64 0) (.slice a NP c) (.slice b NB d) (.slice none 0 0) (.slice none 0 0)
  have xaF_W1 : ∀ o, (w.alloc (.cells #[.int .i64 0, .int .i64 0, .int .i64 0, .int .i64 0, .slice a NP c, .slice b NB d, .slice none 0 0, .slice none 0 0] 29)).frozen? ⟨w.heap.size, o, none⟩ = false := fun o => by simp [go_sem]
  have xaL_W1 : w.heap.size < (w.alloc (.cells #[.int .i64 0, .int .i64 0, .int .i64 0, .int .i64 0, .slice a NP c, .slice b NB d, .slice none 0 0, .slice none 0 0] 29)).heap.size := by simp
  have ab_W1 := alloc_below w (.cells #[.int .i64 0, .int .i64 0, .int .i64 0, .int .i64 0, .slice a NP c, .slice b NB d, .slice none 0 0, .slice none 0 0] 29)
  have as_W1 : Hid ((w.alloc (.cells #[.int .i64 0, .int .i64 0, .int .i64 0, .int .i64 0, .slice a NP c, .slice b NB d, .slice none 0 0, .slice none 0 0] 29)).heap.size = w.heap.size + 1) := hidP (by simp)
  generalize w.alloc (.cells #[.int .i64 0, .int .i64 0, .int .i64 0, .int .i64 0, .slice a NP c, .slice b NB d, .slice none 0 0, .slice none 0 0] 29) = W1 at *
  have acc_W1 := hidP (ab_W1)
  have sz_W1 : Hid (w.heap.size ≤ W1.heap.size) := hidP ab_W1.size
  clear ab_W1 
  refine (HM.out _ acc_W1.out).mono ?_
  rintro e w2 ⟨rfl, o1, o2, wm, g1, g2⟩
  have xa0_w2 := cell_grown g2 (cell_grown g1 xa0_W1 (fun k hk e => by have := l1.out k hk; omega)) (fun k hk e => by have := l2.out k hk; omega)
  have xa1_w2 := cell_grown g2 (cell_grown g1 xa1_W1 (fun k hk e => by have := l1.out k hk; omega)) (fun k hk e => by have := l2.out k hk; omega)
  have xa2_w2 := cell_grown g2 (cell_grown g1 xa2_W1 (fun k hk e => by have := l1.out k hk; omega)) (fun k hk e => by have := l2.out k hk; omega)
  have xa3_w2 := cell_grown g2 (cell_grown g1 xa3_W1 (fun k hk e => by have := l1.out k hk; omega)) (fun k hk e => by have := l2.out k hk; omega)
  have xa4_w2 := cell_grown g2 (cell_grown g1 xa4_W1 (fun k hk e => by have := l1.out k hk; omega)) (fun k hk e => by have := l2.out k hk; omega)
  have xa5_w2 := cell_grown g2 (cell_grown g1 xa5_W1 (fun k hk e => by have := l1.out k hk; omega)) (fun k hk e => by have := l2.out k hk; omega)
  have xa6_w2 := cell_grown g2 (cell_grown g1 xa6_W1 (fun k hk e => by have := l1.out k hk; omega)) (fun k hk e => by have := l2.out k hk; omega)
  have xa7_w2 := cell_grown g2 (cell_grown g1 xa7_W1 (fun k hk e => by have := l1.out k hk; omega)) (fun k hk e => by have := l2.out k hk; omega)
  have HF := hidP (And.intro (And.intro o1 o2) (And.intro ((grown_of acc_W1.out _).trans g1) g2))
  clear o1 o2 g1 g2 xa0_W1 xa1_W1 xa2_W1 xa3_W1 xa4_W1 xa5_W1 xa6_W1 xa7_W1 xaF_W1 acc_W1
  go_wp2_with fail
  refine (mkY0 _ _).mono ?_
  rintro e w3 ⟨rfl, rfl⟩
  go_wp2_with fail
  refine (mkE0 _ _).mono ?_
  rintro e w4 ⟨rfl, rfl⟩
  go_wp2_with fail
  go_ret
  exact ⟨rfl, HF.out.1.1, HF.out.1.2, wm, HF.out.2.1, HF.out.2.2⟩

set_option maxRecDepth 10000 in
set_option maxHeartbeats 2000000 in
theorem heldKeepN (a : Option Addr) (NP c : Nat) (b : Option Addr) (NB d : Nat) (w : World) (hP : RowG KI w a (mksG (mkI 1) NP)) (hK : RowG KI w b (mksG (mkI (1 + NP)) NB)) (hl : NP ≤ 1048577) (hl' : NB ≤ 1048577) :
    Calls Try.prog 67 #[.agg #[.int .i64 0, .int .i64 0, .int .i64 0, .int .i64 0, .slice a NP c, .slice b NB d, .slice none 0 0, .slice none 0 0], .int .i64 1] w fun e w' => e = .returned (.int .i64 (1 + NP + NB)) ∧ Below w.heap.size w w' := by
  have HM := hidP (fun W (h : Below w.heap.size w W) => heldGroup_any a NP c b NB d 1 W (RowG.later hP h) (RowG.later hK h) (by omega) (by omega) (by omega) (by omega))
  clear hP hK
  have d5 : decide ((1 : Int) + (NP : Int) + (NB : Int) < 0) = false := decide_eq_false (by omega)
  have d6 : ¬ ((1 : Int) + (NP : Int) + (NB : Int) < 0) := by omega
  generalize (1 : Int) + (NP : Int) + (NB : Int) = z at *
  go_enter Try.func67, Try.ntmps67
  go_wp2_with fail
  obtain ⟨xa0_W1, xa1_W1, xa2_W1, xa3_W1, xa4_W1, xa5_W1, xa6_W1, xa7_W1⟩ := box8K w 29 (.int .i64 0) (.int .i64 0) (.int .i64 0) (.int .i64 0) (.slice a NP c) (.slice b NB d) (.slice none 0 0) (.slice none 0 0)
  have xaF_W1 : ∀ o, (w.alloc (.cells #[.int .i64 0, .int .i64 0, .int .i64 0, .int .i64 0, .slice a NP c, .slice b NB d, .slice none 0 0, .slice none 0 0] 29)).frozen? ⟨w.heap.size, o, none⟩ = false := fun o => by simp [go_sem]
  have xaL_W1 : w.heap.size < (w.alloc (.cells #[.int .i64 0, .int .i64 0, .int .i64 0, .int .i64 0, .slice a NP c, .slice b NB d, .slice none 0 0, .slice none 0 0] 29)).heap.size := by simp
  have ab_W1 := alloc_below w (.cells #[.int .i64 0, .int .i64 0, .int .i64 0, .int .i64 0, .slice a NP c, .slice b NB d, .slice none 0 0, .slice none 0 0] 29)
  have as_W1 : Hid ((w.alloc (.cells #[.int .i64 0, .int .i64 0, .int .i64 0, .int .i64 0, .slice a NP c, .slice b NB d, .slice none 0 0, .slice none 0 0] 29)).heap.size = w.heap.size + 1) := hidP (by simp)
  generalize w.alloc (.cells #[.int .i64 0, .int .i64 0, .int .i64 0, .int .i64 0, .slice a NP c, .slice b NB d, .slice none 0 0, .slice none 0 0] 29) = W1 at *
  have acc_W1 := hidP (ab_W1)
  have sz_W1 : Hid (w.heap.size ≤ W1.heap.size) := hidP ab_W1.size
  clear ab_W1 
  refine (HM.out _ acc_W1.out).mono ?_
  rintro e w2 ⟨rfl, hb2⟩
  have xa0_w2 := (hb2.cell xaL_W1).trans xa0_W1
  have xa1_w2 := (hb2.cell xaL_W1).trans xa1_W1
  have xa2_w2 := (hb2.cell xaL_W1).trans xa2_W1
  have xa3_w2 := (hb2.cell xaL_W1).trans xa3_W1
  have xa4_w2 := (hb2.cell xaL_W1).trans xa4_W1
  have xa5_w2 := (hb2.cell xaL_W1).trans xa5_W1
  have xa6_w2 := (hb2.cell xaL_W1).trans xa6_W1
  have xa7_w2 := (hb2.cell xaL_W1).trans xa7_W1
  have xaF_w2 : ∀ o, w2.frozen? ⟨w.heap.size, o, none⟩ = false := fun o => (hb2.frozen xaL_W1).trans (xaF_W1 o)
  have xaL_w2 : w.heap.size < w2.heap.size := Nat.lt_of_lt_of_le xaL_W1 hb2.size
  have acc_w2 := hidP (acc_W1.out.trans (hb2.mono acc_W1.out.size))
  have sz_w2 : Hid (W1.heap.size ≤ w2.heap.size) := hidP hb2.size
  clear hb2 xa0_W1 xa1_W1 xa2_W1 xa3_W1 xa4_W1 xa5_W1 xa6_W1 xa7_W1 xaF_W1 xaL_W1 acc_W1
  go_wp2_with fail
  refine (hdY0 _ _).mono ?_
  rintro e w3 ⟨rfl, rfl⟩
  go_wp2_with fail
  refine (hdE0 _ _).mono ?_
  rintro e w4 ⟨rfl, rfl⟩
  go_wp2_with fail
  go_ret
  exact ⟨rfl, acc_w2.out⟩

set_option maxRecDepth 10000 in
set_option maxHeartbeats 2000000 in
theorem sKn_no (g h np nb : Nat) (ps bs : List Int) (w : World) (hnp : np = ps.length) (hnb : nb = bs.length) (hP : RowG KI w (some ⟨g, 0, none⟩) ps) (hK : RowG KI w (some ⟨h, 0, none⟩) bs) (hl : np ≤ 1048576) (hl' : nb ≤ 1048576) (hr : grB ps bs = false) :
    Calls Try.prog 68 #[.agg #[.slice (some ⟨g, 0, none⟩) np np, .slice (some ⟨h, 0, none⟩) nb nb]] w fun e w' => ∃ a c b d, e = .returned (.agg #[.int .i64 0, .int .i64 0, .int .i64 0, .int .i64 0, .slice a 0 c, .slice b 0 d, .slice none 0 0, .slice none 0 0]) ∧ OwnG KI 3 w' w.heap.size (.slice a 0 c) [] ∧ OwnG KI 3 w' w.heap.size (.slice b 0 d) [] ∧ (∀ k, (Value.slice a 0 c).ownBlock = some k → (Value.slice b 0 d).ownBlock ≠ some k) ∧ Below w.heap.size w w' := by
  have HIm := hidP (fun W h9 => sGroupOk_any (some ⟨g, 0, none⟩) np np (some ⟨h, 0, none⟩) nb nb ps bs W hnp hnb (hP.later h9) (hK.later h9) hl hl')
  rw [hr] at HIm
  clear hP hK hnp hnb hr
  go_enter Try.func68, Try.ntmps68
  go_wp2_with fail
  obtain ⟨bk0_W1, bk1_W1⟩ := box2D w 26 (.slice (some ⟨g, 0, none⟩) np np) (.slice (some ⟨h, 0, none⟩) nb nb)
  have bkF_W1 : ∀ o, (w.alloc (.cells #[.slice (some ⟨g, 0, none⟩) np np, .slice (some ⟨h, 0, none⟩) nb nb] 26)).frozen? ⟨w.heap.size, o, none⟩ = false := fun o => by simp [go_sem]
  have bkL_W1 : w.heap.size < (w.alloc (.cells #[.slice (some ⟨g, 0, none⟩) np np, .slice (some ⟨h, 0, none⟩) nb nb] 26)).heap.size := by simp
  have ab_W1 := alloc_below w (.cells #[.slice (some ⟨g, 0, none⟩) np np, .slice (some ⟨h, 0, none⟩) nb nb] 26)
  have as_W1 : Hid ((w.alloc (.cells #[.slice (some ⟨g, 0, none⟩) np np, .slice (some ⟨h, 0, none⟩) nb nb] 26)).heap.size = w.heap.size + 1) := hidP (by simp)
  generalize w.alloc (.cells #[.slice (some ⟨g, 0, none⟩) np np, .slice (some ⟨h, 0, none⟩) nb nb] 26) = W1 at *
  have acc_W1 := hidP (ab_W1)
  have sz_W1 : Hid (w.heap.size ≤ W1.heap.size) := hidP ab_W1.size
  clear ab_W1 
  obtain ⟨rs0_W2, rs1_W2, rs2_W2, rs3_W2, rs4_W2, rs5_W2, rs6_W2, rs7_W2⟩ := box8K W1 29 (.int .i64 0) (.int .i64 0) (.int .i64 0) (.int .i64 0) (.slice none 0 0) (.slice none 0 0) (.slice none 0 0) (.slice none 0 0)
  have rsF_W2 : ∀ o, (W1.alloc (.cells #[.int .i64 0, .int .i64 0, .int .i64 0, .int .i64 0, .slice none 0 0, .slice none 0 0, .slice none 0 0, .slice none 0 0] 29)).frozen? ⟨W1.heap.size, o, none⟩ = false := fun o => by simp [go_sem]
  have rsL_W2 : W1.heap.size < (W1.alloc (.cells #[.int .i64 0, .int .i64 0, .int .i64 0, .int .i64 0, .slice none 0 0, .slice none 0 0, .slice none 0 0, .slice none 0 0] 29)).heap.size := by simp
  have ab_W2 := alloc_below W1 (.cells #[.int .i64 0, .int .i64 0, .int .i64 0, .int .i64 0, .slice none 0 0, .slice none 0 0, .slice none 0 0, .slice none 0 0] 29)
  have as_W2 : Hid ((W1.alloc (.cells #[.int .i64 0, .int .i64 0, .int .i64 0, .int .i64 0, .slice none 0 0, .slice none 0 0, .slice none 0 0, .slice none 0 0] 29)).heap.size = W1.heap.size + 1) := hidP (by simp)
  generalize W1.alloc (.cells #[.int .i64 0, .int .i64 0, .int .i64 0, .int .i64 0, .slice none 0 0, .slice none 0 0, .slice none 0 0, .slice none 0 0] 29) = W2 at *
  have bk0_W2 := (ab_W2.cell bkL_W1).trans bk0_W1
  have bk1_W2 := (ab_W2.cell bkL_W1).trans bk1_W1
  have bkF_W2 : ∀ o, W2.frozen? ⟨w.heap.size, o, none⟩ = false := fun o => (ab_W2.frozen bkL_W1).trans (bkF_W1 o)
  have bkL_W2 : w.heap.size < W2.heap.size := Nat.lt_of_lt_of_le bkL_W1 ab_W2.size
  have acc_W2 := hidP (acc_W1.out.trans (ab_W2.mono acc_W1.out.size))
  have sz_W2 : Hid (W1.heap.size ≤ W2.heap.size) := hidP ab_W2.size
  clear ab_W2 bk0_W1 bk1_W1 bkF_W1 bkL_W1 acc_W1
  rw [as_W1.out] at rs0_W2 rs1_W2 rs2_W2 rs3_W2 rs4_W2 rs5_W2 rs6_W2 rs7_W2 rsL_W2
  have rsF_W2' : ∀ o, W2.frozen? ⟨w.heap.size + 1, o, none⟩ = false := fun o => by have := rsF_W2 o; rw [as_W1.out] at this; exact this
  clear rsF_W2
  have rsF_W2 := rsF_W2'
  clear rsF_W2'
  refine (HIm.out _ acc_W2.out).mono ?_
  rintro e w3 ⟨rfl, hb3⟩
  have bk0_w3 := (hb3.cell bkL_W2).trans bk0_W2
  have bk1_w3 := (hb3.cell bkL_W2).trans bk1_W2
  have bkF_w3 : ∀ o, w3.frozen? ⟨w.heap.size, o, none⟩ = false := fun o => (hb3.frozen bkL_W2).trans (bkF_W2 o)
  have bkL_w3 : w.heap.size < w3.heap.size := Nat.lt_of_lt_of_le bkL_W2 hb3.size
  have rs0_w3 := (hb3.cell rsL_W2).trans rs0_W2
  have rs1_w3 := (hb3.cell rsL_W2).trans rs1_W2
  have rs2_w3 := (hb3.cell rsL_W2).trans rs2_W2
  have rs3_w3 := (hb3.cell rsL_W2).trans rs3_W2
  have rs4_w3 := (hb3.cell rsL_W2).trans rs4_W2
  have rs5_w3 := (hb3.cell rsL_W2).trans rs5_W2
  have rs6_w3 := (hb3.cell rsL_W2).trans rs6_W2
  have rs7_w3 := (hb3.cell rsL_W2).trans rs7_W2
  have rsF_w3 : ∀ o, w3.frozen? ⟨w.heap.size + 1, o, none⟩ = false := fun o => (hb3.frozen rsL_W2).trans (rsF_W2 o)
  have rsL_w3 : w.heap.size + 1 < w3.heap.size := Nat.lt_of_lt_of_le rsL_W2 hb3.size
  have acc_w3 := hidP (acc_W2.out.trans (hb3.mono acc_W2.out.size))
  have sz_w3 : Hid (W2.heap.size ≤ w3.heap.size) := hidP hb3.size
  clear hb3 bk0_W2 bk1_W2 bkF_W2 bkL_W2 rs0_W2 rs1_W2 rs2_W2 rs3_W2 rs4_W2 rs5_W2 rs6_W2 rs7_W2 rsF_W2 rsL_W2 acc_W2
  go_wp2_with fail
  refine bodyPost_ret (v := .agg #[.int .i64 0, .int .i64 0, .int .i64 0, .int .i64 0, .slice none 0 0, .slice none 0 0, .slice none 0 0, .slice none 0 0]) (by simp [results, Try.results68, go_sem, rs0_w3, rs1_w3, rs2_w3, rs3_w3, rs4_w3, rs5_w3, rs6_w3, rs7_w3]) rfl ⟨_, _, _, _, rfl, ?_, ?_, (fun k h => by cases h), ?_⟩
  · exact own_noneG KI _ _ _
  · exact own_noneG KI _ _ _
  · repeat (with_reducible refine Below.setCell ?_ ?_ _; rotate_left; (focus (first | (simp; done) | (simp; omega) | (dsimp only; have := as_W1.out; have := sz_W1.out; have := as_W2.out; have := sz_W2.out; have := sz_w3.out; omega))))
    exact acc_w3.out

set_option maxRecDepth 10000 in
set_option maxHeartbeats 2000000 in
theorem sKn_yes (g h np nb : Nat) (ps bs : List Int) (w : World) (hnp : np = ps.length) (hnb : nb = bs.length) (hP : RowG KI w (some ⟨g, 0, none⟩) ps) (hK : RowG KI w (some ⟨h, 0, none⟩) bs) (hl : np ≤ 1048576) (hl' : nb ≤ 1048576) (hr : grB ps bs = true) :
    Calls Try.prog 68 #[.agg #[.slice (some ⟨g, 0, none⟩) np np, .slice (some ⟨h, 0, none⟩) nb nb]] w fun e w' => ∃ a c b d, e = .returned (.agg #[.int .i64 0, .int .i64 0, .int .i64 0, .int .i64 0, .slice a np c, .slice b nb d, .slice none 0 0, .slice none 0 0]) ∧ OwnG KI 3 w' w.heap.size (.slice a np c) ps ∧ OwnG KI 3 w' w.heap.size (.slice b nb d) bs ∧ (∀ k, (Value.slice a np c).ownBlock = some k → (Value.slice b nb d).ownBlock ≠ some k) ∧ Below w.heap.size w w' := by
  have HOw := hidP (fun W h9 => l12Copy_any (some ⟨g, 0, none⟩) np np (some ⟨h, 0, none⟩) nb nb ps bs W hnp hnb (hP.later h9) (hK.later h9) (fun h => by cases h) (fun h => by cases h) hl hl')
  have HIm := hidP (fun W h9 => sGroupOk_any (some ⟨g, 0, none⟩) np np (some ⟨h, 0, none⟩) nb nb ps bs W hnp hnb (hP.later h9) (hK.later h9) hl hl')
  rw [hr] at HIm
  clear hP hK hnp hnb hr
  go_enter Try.func68, Try.ntmps68
  go_wp2_with fail
  obtain ⟨bk0_W1, bk1_W1⟩ := box2D w 26 (.slice (some ⟨g, 0, none⟩) np np) (.slice (some ⟨h, 0, none⟩) nb nb)
  have bkF_W1 : ∀ o, (w.alloc (.cells #[.slice (some ⟨g, 0, none⟩) np np, .slice (some ⟨h, 0, none⟩) nb nb] 26)).frozen? ⟨w.heap.size, o, none⟩ = false := fun o => by simp [go_sem]
  have bkL_W1 : w.heap.size < (w.alloc (.cells #[.slice (some ⟨g, 0, none⟩) np np, .slice (some ⟨h, 0, none⟩) nb nb] 26)).heap.size := by simp
  have ab_W1 := alloc_below w (.cells #[.slice (some ⟨g, 0, none⟩) np np, .slice (some ⟨h, 0, none⟩) nb nb] 26)
  have as_W1 : Hid ((w.alloc (.cells #[.slice (some ⟨g, 0, none⟩) np np, .slice (some ⟨h, 0, none⟩) nb nb] 26)).heap.size = w.heap.size + 1) := hidP (by simp)
  generalize w.alloc (.cells #[.slice (some ⟨g, 0, none⟩) np np, .slice (some ⟨h, 0, none⟩) nb nb] 26) = W1 at *
  have acc_W1 := hidP (ab_W1)
  have sz_W1 : Hid (w.heap.size ≤ W1.heap.size) := hidP ab_W1.size
  clear ab_W1 
  obtain ⟨rs0_W2, rs1_W2, rs2_W2, rs3_W2, rs4_W2, rs5_W2, rs6_W2, rs7_W2⟩ := box8K W1 29 (.int .i64 0) (.int .i64 0) (.int .i64 0) (.int .i64 0) (.slice none 0 0) (.slice none 0 0) (.slice none 0 0) (.slice none 0 0)
  have rsF_W2 : ∀ o, (W1.alloc (.cells #[.int .i64 0, .int .i64 0, .int .i64 0, .int .i64 0, .slice none 0 0, .slice none 0 0, .slice none 0 0, .slice none 0 0] 29)).frozen? ⟨W1.heap.size, o, none⟩ = false := fun o => by simp [go_sem]
  have rsL_W2 : W1.heap.size < (W1.alloc (.cells #[.int .i64 0, .int .i64 0, .int .i64 0, .int .i64 0, .slice none 0 0, .slice none 0 0, .slice none 0 0, .slice none 0 0] 29)).heap.size := by simp
  have ab_W2 := alloc_below W1 (.cells #[.int .i64 0, .int .i64 0, .int .i64 0, .int .i64 0, .slice none 0 0, .slice none 0 0, .slice none 0 0, .slice none 0 0] 29)
  have as_W2 : Hid ((W1.alloc (.cells #[.int .i64 0, .int .i64 0, .int .i64 0, .int .i64 0, .slice none 0 0, .slice none 0 0, .slice none 0 0, .slice none 0 0] 29)).heap.size = W1.heap.size + 1) := hidP (by simp)
  generalize W1.alloc (.cells #[.int .i64 0, .int .i64 0, .int .i64 0, .int .i64 0, .slice none 0 0, .slice none 0 0, .slice none 0 0, .slice none 0 0] 29) = W2 at *
  have bk0_W2 := (ab_W2.cell bkL_W1).trans bk0_W1
  have bk1_W2 := (ab_W2.cell bkL_W1).trans bk1_W1
  have bkF_W2 : ∀ o, W2.frozen? ⟨w.heap.size, o, none⟩ = false := fun o => (ab_W2.frozen bkL_W1).trans (bkF_W1 o)
  have bkL_W2 : w.heap.size < W2.heap.size := Nat.lt_of_lt_of_le bkL_W1 ab_W2.size
  have acc_W2 := hidP (acc_W1.out.trans (ab_W2.mono acc_W1.out.size))
  have sz_W2 : Hid (W1.heap.size ≤ W2.heap.size) := hidP ab_W2.size
  clear ab_W2 bk0_W1 bk1_W1 bkF_W1 bkL_W1 acc_W1
  rw [as_W1.out] at rs0_W2 rs1_W2 rs2_W2 rs3_W2 rs4_W2 rs5_W2 rs6_W2 rs7_W2 rsL_W2
  have rsF_W2' : ∀ o, W2.frozen? ⟨w.heap.size + 1, o, none⟩ = false := fun o => by have := rsF_W2 o; rw [as_W1.out] at this; exact this
  clear rsF_W2
  have rsF_W2 := rsF_W2'
  clear rsF_W2'
  refine (HIm.out _ acc_W2.out).mono ?_
  rintro e w3 ⟨rfl, hb3⟩
  have bk0_w3 := (hb3.cell bkL_W2).trans bk0_W2
  have bk1_w3 := (hb3.cell bkL_W2).trans bk1_W2
  have bkF_w3 : ∀ o, w3.frozen? ⟨w.heap.size, o, none⟩ = false := fun o => (hb3.frozen bkL_W2).trans (bkF_W2 o)
  have bkL_w3 : w.heap.size < w3.heap.size := Nat.lt_of_lt_of_le bkL_W2 hb3.size
  have rs0_w3 := (hb3.cell rsL_W2).trans rs0_W2
  have rs1_w3 := (hb3.cell rsL_W2).trans rs1_W2
  have rs2_w3 := (hb3.cell rsL_W2).trans rs2_W2
  have rs3_w3 := (hb3.cell rsL_W2).trans rs3_W2
  have rs4_w3 := (hb3.cell rsL_W2).trans rs4_W2
  have rs5_w3 := (hb3.cell rsL_W2).trans rs5_W2
  have rs6_w3 := (hb3.cell rsL_W2).trans rs6_W2
  have rs7_w3 := (hb3.cell rsL_W2).trans rs7_W2
  have rsF_w3 : ∀ o, w3.frozen? ⟨w.heap.size + 1, o, none⟩ = false := fun o => (hb3.frozen rsL_W2).trans (rsF_W2 o)
  have rsL_w3 : w.heap.size + 1 < w3.heap.size := Nat.lt_of_lt_of_le rsL_W2 hb3.size
  have acc_w3 := hidP (acc_W2.out.trans (hb3.mono acc_W2.out.size))
  have sz_w3 : Hid (W2.heap.size ≤ w3.heap.size) := hidP hb3.size
  clear hb3 bk0_W2 bk1_W2 bkF_W2 bkL_W2 rs0_W2 rs1_W2 rs2_W2 rs3_W2 rs4_W2 rs5_W2 rs6_W2 rs7_W2 rsF_W2 rsL_W2 acc_W2
  go_wp2_with fail
  refine (HOw.out _ acc_w3.out).mono ?_
  rintro e w4 ⟨a4, c4, b4, d4, rfl, og4, oh4, nq4, hb4⟩
  have OX := hidP (And.intro og4 (And.intro oh4 nq4))
  clear og4 oh4 nq4
  have bk0_w4 := (hb4.cell bkL_w3).trans bk0_w3
  have bk1_w4 := (hb4.cell bkL_w3).trans bk1_w3
  have bkF_w4 : ∀ o, w4.frozen? ⟨w.heap.size, o, none⟩ = false := fun o => (hb4.frozen bkL_w3).trans (bkF_w3 o)
  have bkL_w4 : w.heap.size < w4.heap.size := Nat.lt_of_lt_of_le bkL_w3 hb4.size
  have rs0_w4 := (hb4.cell rsL_w3).trans rs0_w3
  have rs1_w4 := (hb4.cell rsL_w3).trans rs1_w3
  have rs2_w4 := (hb4.cell rsL_w3).trans rs2_w3
  have rs3_w4 := (hb4.cell rsL_w3).trans rs3_w3
  have rs4_w4 := (hb4.cell rsL_w3).trans rs4_w3
  have rs5_w4 := (hb4.cell rsL_w3).trans rs5_w3
  have rs6_w4 := (hb4.cell rsL_w3).trans rs6_w3
  have rs7_w4 := (hb4.cell rsL_w3).trans rs7_w3
  have rsF_w4 : ∀ o, w4.frozen? ⟨w.heap.size + 1, o, none⟩ = false := fun o => (hb4.frozen rsL_w3).trans (rsF_w3 o)
  have rsL_w4 : w.heap.size + 1 < w4.heap.size := Nat.lt_of_lt_of_le rsL_w3 hb4.size
  have acc_w4 := hidP (acc_w3.out.trans (hb4.mono acc_w3.out.size))
  have sz_w4 : Hid (w3.heap.size ≤ w4.heap.size) := hidP hb4.size
  clear hb4 bk0_w3 bk1_w3 bkF_w3 bkL_w3 rs0_w3 rs1_w3 rs2_w3 rs3_w3 rs4_w3 rs5_w3 rs6_w3 rs7_w3 rsF_w3 rsL_w3 acc_w3
  have oP_w4 := hidP (OX.out.1)
  have lhP : Hid (∀ k, (Value.slice a4 np c4).ownBlock = some k → w3.heap.size ≤ k ∧ k < w4.heap.size) := hidP (fun k hk => OwnG.lt oP_w4.out k hk)
  have oQ_w4 := hidP (OX.out.2.1)
  have lhQ : Hid (∀ k, (Value.slice b4 nb d4).ownBlock = some k → w3.heap.size ≤ k ∧ k < w4.heap.size) := hidP (fun k hk => OwnG.lt oQ_w4.out k hk)
  have ne4 := hidP OX.out.2.2
  clear OX
  go_wp2_with fail
  refine bodyPost_ret (v := .agg #[.int .i64 0, .int .i64 0, .int .i64 0, .int .i64 0, .slice a4 np c4, .slice b4 nb d4, .slice none 0 0, .slice none 0 0]) (by simp [results, Try.results68, go_sem, rs0_w4, rs1_w4, rs2_w4, rs3_w4, rs4_w4, rs5_w4, rs6_w4, rs7_w4]) rfl ⟨_, _, _, _, rfl, ?_, ?_, ne4.out, ?_⟩
  · refine OwnG.mono (B := w3.heap.size) ?_ (by have := as_W1.out; have := sz_W1.out; have := as_W2.out; have := sz_W2.out; have := sz_w3.out; have := sz_w4.out; omega)
    iterate 8 (with_reducible refine OwnG.grown ?_ (grown_cellG _ _ _ _) ?_; rotate_left; (focus (exact OwnG.ne_of oP_w4.out (by have := as_W1.out; have := sz_W1.out; have := as_W2.out; have := sz_W2.out; have := sz_w3.out; have := sz_w4.out; omega))))
    with_reducible exact oP_w4.out
  · refine OwnG.mono (B := w3.heap.size) ?_ (by have := as_W1.out; have := sz_W1.out; have := as_W2.out; have := sz_W2.out; have := sz_w3.out; have := sz_w4.out; omega)
    iterate 8 (with_reducible refine OwnG.grown ?_ (grown_cellG _ _ _ _) ?_; rotate_left; (focus (exact OwnG.ne_of oQ_w4.out (by have := as_W1.out; have := sz_W1.out; have := as_W2.out; have := sz_W2.out; have := sz_w3.out; have := sz_w4.out; omega))))
    with_reducible exact oQ_w4.out
  · repeat (with_reducible refine Below.setCell ?_ ?_ _; rotate_left; (focus (first | (simp; done) | (simp; omega) | (dsimp only; have := as_W1.out; have := sz_W1.out; have := as_W2.out; have := sz_W2.out; have := sz_w3.out; have := sz_w4.out; omega))))
    exact acc_w4.out

end Go.Proofs.Ytamaanbnlnpjcaa
