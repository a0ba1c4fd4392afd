/-
  What granted_card needs, part 8.
-/
import Derived.Test.YtddnofonodgneaaGreatDoorZG7
import Derived.Deep.RegionHeld3
import Derived.Test.YtddnofonodgneaaGreatDoorCards
import Derived.Test.YtddnofonodgneaaGreatDoorTie
import Derived.ProofKit
import Derived.Lib.SmallJoins
import Derived.Carry
import Derived.Deep.Slices
import Derived.ChangeMaps5
import Derived.ChangeSame
import Derived.ChangeVars
import Derived.JoinedOf
import Derived.LaidLaws
import Derived.LaidHandle
import Derived.Stop.Joined
import Derived.Deep.DeepCutAuto
namespace Go.Proofs.YtddnofonodgneaaGreatDoor
open Go.RowKit

set_option maxRecDepth 10000 in
set_option maxHeartbeats 4000000 in
theorem iGr_yes (a : Option Addr) (n c : Nat) (T N : Int) (ls : List Ls) (ad : Ad) (own : ByteArray) (span : Int) (w : World) (hn : n = ls.length) (hB : RowG KLs w a ls) (hl : n ≤ 1048576) (hT : 0 ≤ T ∧ T < 1000000000) (hw : IntKind.i64.wrap (N + span) = N + span) (I : Nat) (hI : I ≤ n) (HP : ∀ W a c, RowG KLs W a ls → Calls Tryz.prog 25 #[.agg #[.slice a n c, .int .i64 T, .int .i64 N], .agg #[.bool ad.s, .int .i64 ad.H.toInt, .int .i64 ad.L.toInt], .string own, .int .i64 span] W fun e w' => e = .returned (.tuple #[.int .i64 I, .nilIface]) ∧ Below W.heap.size W w') :
    Calls Tryz.prog 7 #[.agg #[.slice a n c, .int .i64 T, .int .i64 N], .agg #[.bool ad.s, .int .i64 ad.H.toInt, .int .i64 ad.L.toInt], .string own, .int .i64 span] w fun e w' => ∃ a' c', e = .returned (.tuple #[.agg #[.slice a' (n + 1) c', .int .i64 (T + 1), .int .i64 N], .int .i64 (T + 1), .int .i64 0]) ∧ OwnG KLs 35 w' w.heap.size (.slice a' (n + 1) c') (ls.take I ++ [⟨ad, own, T + 1, N + span⟩] ++ ls.drop I) ∧ Below w.heap.size w w' := by
  have HOw := hidP (fun W h => ownBook_any a n c T N ls W hn (hB.later h) hl)
  have HPh := hidP HP
  have HN := hidP hn
  clear hB hn HP
  have hwT : IntKind.i64.wrap (T + 1) = T + 1 := by rw [IntKind.wrap_i64]; omega
  have hwT' : wrap64 (T + 1) = T + 1 := by rw [show wrap64 (T + 1) = IntKind.i64.wrap (T + 1) by rw [IntKind.wrap_i64, wrap64]]; exact hwT
  clear hT
  go_enter Tryz.func7, Tryz.ntmps7
  go_wp2_with fail
  obtain ⟨bk0_W1, bk1_W1, bk2_W1⟩ := box3B w 26 (.slice a n c) (.int .i64 T) (.int .i64 N)
  have bkF_W1 : ∀ o, (w.alloc (.cells #[.slice a n c, .int .i64 T, .int .i64 N] 26)).frozen? ⟨w.heap.size, o, none⟩ = false := fun o => by simp [go_sem]
  have bkL_W1 : w.heap.size < (w.alloc (.cells #[.slice a n c, .int .i64 T, .int .i64 N] 26)).heap.size := by simp
  have ab_W1 := alloc_below w (.cells #[.slice a n c, .int .i64 T, .int .i64 N] 26)
  have as_W1 : Hid ((w.alloc (.cells #[.slice a n c, .int .i64 T, .int .i64 N] 26)).heap.size = w.heap.size + 1) := hidP (by simp)
  generalize w.alloc (.cells #[.slice a n c, .int .i64 T, .int .i64 N] 26) = W1 at *
  have acc_W1 := hidP (ab_W1)
  have sz_W1 : Hid (w.heap.size ≤ W1.heap.size) := hidP ab_W1.size
  clear ab_W1 
  obtain ⟨at0_W2, at1_W2, at2_W2⟩ := box3B W1 28 (.bool ad.s) (.int .i64 ad.H.toInt) (.int .i64 ad.L.toInt)
  have atF_W2 : ∀ o, (W1.alloc (.cells #[.bool ad.s, .int .i64 ad.H.toInt, .int .i64 ad.L.toInt] 28)).frozen? ⟨W1.heap.size, o, none⟩ = false := fun o => by simp [go_sem]
  have atL_W2 : W1.heap.size < (W1.alloc (.cells #[.bool ad.s, .int .i64 ad.H.toInt, .int .i64 ad.L.toInt] 28)).heap.size := by simp
  have ab_W2 := alloc_below W1 (.cells #[.bool ad.s, .int .i64 ad.H.toInt, .int .i64 ad.L.toInt] 28)
  have as_W2 : Hid ((W1.alloc (.cells #[.bool ad.s, .int .i64 ad.H.toInt, .int .i64 ad.L.toInt] 28)).heap.size = W1.heap.size + 1) := hidP (by simp)
  generalize W1.alloc (.cells #[.bool ad.s, .int .i64 ad.H.toInt, .int .i64 ad.L.toInt] 28) = W2 at *
  have bk0_W2 := (ab_W2.cell bkL_W1).trans bk0_W1
  have bk1_W2 := (ab_W2.cell bkL_W1).trans bk1_W1
  have bk2_W2 := (ab_W2.cell bkL_W1).trans bk2_W1
  have bkF_W2 : ∀ o, W2.frozen? ⟨w.heap.size, o, none⟩ = false := fun o => (ab_W2.frozen bkL_W1).trans (bkF_W1 o)
  have bkL_W2 : w.heap.size < W2.heap.size := Nat.lt_of_lt_of_le bkL_W1 ab_W2.size
  have acc_W2 := hidP (acc_W1.out.trans (ab_W2.mono acc_W1.out.size))
  have sz_W2 : Hid (W1.heap.size ≤ W2.heap.size) := hidP ab_W2.size
  clear ab_W2 bk0_W1 bk1_W1 bk2_W1 bkF_W1 bkL_W1 acc_W1
  rw [as_W1.out] at at0_W2 at1_W2 at2_W2 atL_W2
  have atF_W2' : ∀ o, W2.frozen? ⟨w.heap.size + 1, o, none⟩ = false := fun o => by have := atF_W2 o; rw [as_W1.out] at this; exact this
  clear atF_W2
  have atF_W2 := atF_W2'
  clear atF_W2'
  obtain ⟨rs0_W3, rs1_W3, rs2_W3⟩ := box3B W2 26 (.slice none 0 0) (.int .i64 0) (.int .i64 0)
  have rsF_W3 : ∀ o, (W2.alloc (.cells #[.slice none 0 0, .int .i64 0, .int .i64 0] 26)).frozen? ⟨W2.heap.size, o, none⟩ = false := fun o => by simp [go_sem]
  have rsL_W3 : W2.heap.size < (W2.alloc (.cells #[.slice none 0 0, .int .i64 0, .int .i64 0] 26)).heap.size := by simp
  have ab_W3 := alloc_below W2 (.cells #[.slice none 0 0, .int .i64 0, .int .i64 0] 26)
  have as_W3 : Hid ((W2.alloc (.cells #[.slice none 0 0, .int .i64 0, .int .i64 0] 26)).heap.size = W2.heap.size + 1) := hidP (by simp)
  generalize W2.alloc (.cells #[.slice none 0 0, .int .i64 0, .int .i64 0] 26) = W3 at *
  have bk0_W3 := (ab_W3.cell bkL_W2).trans bk0_W2
  have bk1_W3 := (ab_W3.cell bkL_W2).trans bk1_W2
  have bk2_W3 := (ab_W3.cell bkL_W2).trans bk2_W2
  have bkF_W3 : ∀ o, W3.frozen? ⟨w.heap.size, o, none⟩ = false := fun o => (ab_W3.frozen bkL_W2).trans (bkF_W2 o)
  have bkL_W3 : w.heap.size < W3.heap.size := Nat.lt_of_lt_of_le bkL_W2 ab_W3.size
  have at0_W3 := (ab_W3.cell atL_W2).trans at0_W2
  have at1_W3 := (ab_W3.cell atL_W2).trans at1_W2
  have at2_W3 := (ab_W3.cell atL_W2).trans at2_W2
  have atF_W3 : ∀ o, W3.frozen? ⟨w.heap.size + 1, o, none⟩ = false := fun o => (ab_W3.frozen atL_W2).trans (atF_W2 o)
  have atL_W3 : w.heap.size + 1 < W3.heap.size := Nat.lt_of_lt_of_le atL_W2 ab_W3.size
  have acc_W3 := hidP (acc_W2.out.trans (ab_W3.mono acc_W2.out.size))
  have sz_W3 : Hid (W2.heap.size ≤ W3.heap.size) := hidP ab_W3.size
  clear ab_W3 bk0_W2 bk1_W2 bk2_W2 bkF_W2 bkL_W2 at0_W2 at1_W2 at2_W2 atF_W2 atL_W2 acc_W2
  rw [as_W2.out, as_W1.out] at rs0_W3 rs1_W3 rs2_W3 rsL_W3
  have rsF_W3' : ∀ o, W3.frozen? ⟨w.heap.size + 1 + 1, o, none⟩ = false := fun o => by have := rsF_W3 o; rw [as_W2.out, as_W1.out] at this; exact this
  clear rsF_W3
  have rsF_W3 := rsF_W3'
  clear rsF_W3'
  refine (HOw.out _ acc_W3.out).mono ?_
  rintro e w4 ⟨a3, c3, rfl, og3, hb4⟩
  have og3' := hidP og3
  clear og3
  have bk0_w4 := (hb4.cell bkL_W3).trans bk0_W3
  have bk1_w4 := (hb4.cell bkL_W3).trans bk1_W3
  have bk2_w4 := (hb4.cell bkL_W3).trans bk2_W3
  have bkF_w4 : ∀ o, w4.frozen? ⟨w.heap.size, o, none⟩ = false := fun o => (hb4.frozen bkL_W3).trans (bkF_W3 o)
  have bkL_w4 : w.heap.size < w4.heap.size := Nat.lt_of_lt_of_le bkL_W3 hb4.size
  have at0_w4 := (hb4.cell atL_W3).trans at0_W3
  have at1_w4 := (hb4.cell atL_W3).trans at1_W3
  have at2_w4 := (hb4.cell atL_W3).trans at2_W3
  have atF_w4 : ∀ o, w4.frozen? ⟨w.heap.size + 1, o, none⟩ = false := fun o => (hb4.frozen atL_W3).trans (atF_W3 o)
  have atL_w4 : w.heap.size + 1 < w4.heap.size := Nat.lt_of_lt_of_le atL_W3 hb4.size
  have rs0_w4 := (hb4.cell rsL_W3).trans rs0_W3
  have rs1_w4 := (hb4.cell rsL_W3).trans rs1_W3
  have rs2_w4 := (hb4.cell rsL_W3).trans rs2_W3
  have rsF_w4 : ∀ o, w4.frozen? ⟨w.heap.size + 1 + 1, o, none⟩ = false := fun o => (hb4.frozen rsL_W3).trans (rsF_W3 o)
  have rsL_w4 : w.heap.size + 1 + 1 < w4.heap.size := Nat.lt_of_lt_of_le rsL_W3 hb4.size
  have acc_w4 := hidP (acc_W3.out.trans (hb4.mono acc_W3.out.size))
  have sz_w4 : Hid (W3.heap.size ≤ w4.heap.size) := hidP hb4.size
  clear hb4 bk0_W3 bk1_W3 bk2_W3 bkF_W3 bkL_W3 at0_W3 at1_W3 at2_W3 atF_W3 atL_W3 rs0_W3 rs1_W3 rs2_W3 rsF_W3 rsL_W3 acc_W3
  have oL_w4 := hidP (og3'.out)
  have lhL : Hid (∀ k, (Value.slice a3 n c3).ownBlock = some k → W3.heap.size ≤ k ∧ k < w4.heap.size) := hidP (fun k hk => OwnG.lt oL_w4.out k hk)
  clear og3'
  go_wp2_with fail
  have bk0_W5 : (((w4.setCell ⟨w.heap.size, 0, none⟩ (.slice a3 n c3)).setCell ⟨w.heap.size, 1, none⟩ (.int .i64 T)).setCell ⟨w.heap.size, 2, none⟩ (.int .i64 N)).cell? ⟨w.heap.size, 0, none⟩ = some (.slice a3 n c3) := by simp [go_sem, bk0_w4]
  have bk1_W5 : (((w4.setCell ⟨w.heap.size, 0, none⟩ (.slice a3 n c3)).setCell ⟨w.heap.size, 1, none⟩ (.int .i64 T)).setCell ⟨w.heap.size, 2, none⟩ (.int .i64 N)).cell? ⟨w.heap.size, 1, none⟩ = some (.int .i64 T) := by simp [go_sem, bk1_w4]
  have bk2_W5 : (((w4.setCell ⟨w.heap.size, 0, none⟩ (.slice a3 n c3)).setCell ⟨w.heap.size, 1, none⟩ (.int .i64 T)).setCell ⟨w.heap.size, 2, none⟩ (.int .i64 N)).cell? ⟨w.heap.size, 2, none⟩ = some (.int .i64 N) := by simp [go_sem, bk2_w4]
  have bkF_W5 : ∀ o, (((w4.setCell ⟨w.heap.size, 0, none⟩ (.slice a3 n c3)).setCell ⟨w.heap.size, 1, none⟩ (.int .i64 T)).setCell ⟨w.heap.size, 2, none⟩ (.int .i64 N)).frozen? ⟨w.heap.size, o, none⟩ = false := fun o => frz_set1 (frz_set1 (frz_set1 ((bkF_w4 o))))
  have bkL_W5 : w.heap.size < (((w4.setCell ⟨w.heap.size, 0, none⟩ (.slice a3 n c3)).setCell ⟨w.heap.size, 1, none⟩ (.int .i64 T)).setCell ⟨w.heap.size, 2, none⟩ (.int .i64 N)).heap.size := by simpa using bkL_w4
  have at0_W5 : (((w4.setCell ⟨w.heap.size, 0, none⟩ (.slice a3 n c3)).setCell ⟨w.heap.size, 1, none⟩ (.int .i64 T)).setCell ⟨w.heap.size, 2, none⟩ (.int .i64 N)).cell? ⟨w.heap.size + 1, 0, none⟩ = some (.bool ad.s) := cell_set1 (cell_set1 (cell_set1 (at0_w4) (by have := as_W1.out; have := sz_W1.out; have := as_W2.out; have := sz_W2.out; have := as_W3.out; have := sz_W3.out; have := sz_w4.out; omega)) (by have := as_W1.out; have := sz_W1.out; have := as_W2.out; have := sz_W2.out; have := as_W3.out; have := sz_W3.out; have := sz_w4.out; omega)) (by have := as_W1.out; have := sz_W1.out; have := as_W2.out; have := sz_W2.out; have := as_W3.out; have := sz_W3.out; have := sz_w4.out; omega)
  have at1_W5 : (((w4.setCell ⟨w.heap.size, 0, none⟩ (.slice a3 n c3)).setCell ⟨w.heap.size, 1, none⟩ (.int .i64 T)).setCell ⟨w.heap.size, 2, none⟩ (.int .i64 N)).cell? ⟨w.heap.size + 1, 1, none⟩ = some (.int .i64 ad.H.toInt) := cell_set1 (cell_set1 (cell_set1 (at1_w4) (by have := as_W1.out; have := sz_W1.out; have := as_W2.out; have := sz_W2.out; have := as_W3.out; have := sz_W3.out; have := sz_w4.out; omega)) (by have := as_W1.out; have := sz_W1.out; have := as_W2.out; have := sz_W2.out; have := as_W3.out; have := sz_W3.out; have := sz_w4.out; omega)) (by have := as_W1.out; have := sz_W1.out; have := as_W2.out; have := sz_W2.out; have := as_W3.out; have := sz_W3.out; have := sz_w4.out; omega)
  have at2_W5 : (((w4.setCell ⟨w.heap.size, 0, none⟩ (.slice a3 n c3)).setCell ⟨w.heap.size, 1, none⟩ (.int .i64 T)).setCell ⟨w.heap.size, 2, none⟩ (.int .i64 N)).cell? ⟨w.heap.size + 1, 2, none⟩ = some (.int .i64 ad.L.toInt) := cell_set1 (cell_set1 (cell_set1 (at2_w4) (by have := as_W1.out; have := sz_W1.out; have := as_W2.out; have := sz_W2.out; have := as_W3.out; have := sz_W3.out; have := sz_w4.out; omega)) (by have := as_W1.out; have := sz_W1.out; have := as_W2.out; have := sz_W2.out; have := as_W3.out; have := sz_W3.out; have := sz_w4.out; omega)) (by have := as_W1.out; have := sz_W1.out; have := as_W2.out; have := sz_W2.out; have := as_W3.out; have := sz_W3.out; have := sz_w4.out; omega)
  have atF_W5 : ∀ o, (((w4.setCell ⟨w.heap.size, 0, none⟩ (.slice a3 n c3)).setCell ⟨w.heap.size, 1, none⟩ (.int .i64 T)).setCell ⟨w.heap.size, 2, none⟩ (.int .i64 N)).frozen? ⟨w.heap.size + 1, o, none⟩ = false := fun o => frz_set1 (frz_set1 (frz_set1 ((atF_w4 o))))
  have atL_W5 : w.heap.size + 1 < (((w4.setCell ⟨w.heap.size, 0, none⟩ (.slice a3 n c3)).setCell ⟨w.heap.size, 1, none⟩ (.int .i64 T)).setCell ⟨w.heap.size, 2, none⟩ (.int .i64 N)).heap.size := by simpa using atL_w4
  have rs0_W5 : (((w4.setCell ⟨w.heap.size, 0, none⟩ (.slice a3 n c3)).setCell ⟨w.heap.size, 1, none⟩ (.int .i64 T)).setCell ⟨w.heap.size, 2, none⟩ (.int .i64 N)).cell? ⟨w.heap.size + 1 + 1, 0, none⟩ = some (.slice none 0 0) := cell_set1 (cell_set1 (cell_set1 (rs0_w4) (by have := as_W1.out; have := sz_W1.out; have := as_W2.out; have := sz_W2.out; have := as_W3.out; have := sz_W3.out; have := sz_w4.out; omega)) (by have := as_W1.out; have := sz_W1.out; have := as_W2.out; have := sz_W2.out; have := as_W3.out; have := sz_W3.out; have := sz_w4.out; omega)) (by have := as_W1.out; have := sz_W1.out; have := as_W2.out; have := sz_W2.out; have := as_W3.out; have := sz_W3.out; have := sz_w4.out; omega)
  have rs1_W5 : (((w4.setCell ⟨w.heap.size, 0, none⟩ (.slice a3 n c3)).setCell ⟨w.heap.size, 1, none⟩ (.int .i64 T)).setCell ⟨w.heap.size, 2, none⟩ (.int .i64 N)).cell? ⟨w.heap.size + 1 + 1, 1, none⟩ = some (.int .i64 0) := cell_set1 (cell_set1 (cell_set1 (rs1_w4) (by have := as_W1.out; have := sz_W1.out; have := as_W2.out; have := sz_W2.out; have := as_W3.out; have := sz_W3.out; have := sz_w4.out; omega)) (by have := as_W1.out; have := sz_W1.out; have := as_W2.out; have := sz_W2.out; have := as_W3.out; have := sz_W3.out; have := sz_w4.out; omega)) (by have := as_W1.out; have := sz_W1.out; have := as_W2.out; have := sz_W2.out; have := as_W3.out; have := sz_W3.out; have := sz_w4.out; omega)
  have rs2_W5 : (((w4.setCell ⟨w.heap.size, 0, none⟩ (.slice a3 n c3)).setCell ⟨w.heap.size, 1, none⟩ (.int .i64 T)).setCell ⟨w.heap.size, 2, none⟩ (.int .i64 N)).cell? ⟨w.heap.size + 1 + 1, 2, none⟩ = some (.int .i64 0) := cell_set1 (cell_set1 (cell_set1 (rs2_w4) (by have := as_W1.out; have := sz_W1.out; have := as_W2.out; have := sz_W2.out; have := as_W3.out; have := sz_W3.out; have := sz_w4.out; omega)) (by have := as_W1.out; have := sz_W1.out; have := as_W2.out; have := sz_W2.out; have := as_W3.out; have := sz_W3.out; have := sz_w4.out; omega)) (by have := as_W1.out; have := sz_W1.out; have := as_W2.out; have := sz_W2.out; have := as_W3.out; have := sz_W3.out; have := sz_w4.out; omega)
  have rsF_W5 : ∀ o, (((w4.setCell ⟨w.heap.size, 0, none⟩ (.slice a3 n c3)).setCell ⟨w.heap.size, 1, none⟩ (.int .i64 T)).setCell ⟨w.heap.size, 2, none⟩ (.int .i64 N)).frozen? ⟨w.heap.size + 1 + 1, o, none⟩ = false := fun o => frz_set1 (frz_set1 (frz_set1 ((rsF_w4 o))))
  have rsL_W5 : w.heap.size + 1 + 1 < (((w4.setCell ⟨w.heap.size, 0, none⟩ (.slice a3 n c3)).setCell ⟨w.heap.size, 1, none⟩ (.int .i64 T)).setCell ⟨w.heap.size, 2, none⟩ (.int .i64 N)).heap.size := by simpa using rsL_w4
  have oL_W5 : Hid (OwnG KLs 35 (((w4.setCell ⟨w.heap.size, 0, none⟩ (.slice a3 n c3)).setCell ⟨w.heap.size, 1, none⟩ (.int .i64 T)).setCell ⟨w.heap.size, 2, none⟩ (.int .i64 N)) (W3.heap.size) (.slice a3 n c3) (ls)) := hidP (OwnG.grown (OwnG.grown (OwnG.grown (oL_w4.out) (grown_cellG _ _ _ _) (OwnG.ne_of oL_w4.out (by have := as_W1.out; have := sz_W1.out; have := as_W2.out; have := sz_W2.out; have := as_W3.out; have := sz_W3.out; have := sz_w4.out; omega))) (grown_cellG _ _ _ _) (OwnG.ne_of oL_w4.out (by have := as_W1.out; have := sz_W1.out; have := as_W2.out; have := sz_W2.out; have := as_W3.out; have := sz_W3.out; have := sz_w4.out; omega))) (grown_cellG _ _ _ _) (OwnG.ne_of oL_w4.out (by have := as_W1.out; have := sz_W1.out; have := as_W2.out; have := sz_W2.out; have := as_W3.out; have := sz_W3.out; have := sz_w4.out; omega)))
  have acc_W5 : Hid (Below w.heap.size w (((w4.setCell ⟨w.heap.size, 0, none⟩ (.slice a3 n c3)).setCell ⟨w.heap.size, 1, none⟩ (.int .i64 T)).setCell ⟨w.heap.size, 2, none⟩ (.int .i64 N))) := hidP (Below.setCell (Below.setCell (Below.setCell (acc_w4.out) (by have := as_W1.out; have := sz_W1.out; have := as_W2.out; have := sz_W2.out; have := as_W3.out; have := sz_W3.out; have := sz_w4.out; try dsimp only; omega) _) (by have := as_W1.out; have := sz_W1.out; have := as_W2.out; have := sz_W2.out; have := as_W3.out; have := sz_W3.out; have := sz_w4.out; try dsimp only; omega) _) (by have := as_W1.out; have := sz_W1.out; have := as_W2.out; have := sz_W2.out; have := as_W3.out; have := sz_W3.out; have := sz_w4.out; try dsimp only; omega) _)
  have sz_W5 : Hid ((((w4.setCell ⟨w.heap.size, 0, none⟩ (.slice a3 n c3)).setCell ⟨w.heap.size, 1, none⟩ (.int .i64 T)).setCell ⟨w.heap.size, 2, none⟩ (.int .i64 N)).heap.size = w4.heap.size) := hidP (by simp)
  generalize ((w4.setCell ⟨w.heap.size, 0, none⟩ (.slice a3 n c3)).setCell ⟨w.heap.size, 1, none⟩ (.int .i64 T)).setCell ⟨w.heap.size, 2, none⟩ (.int .i64 N) = W5 at *
  clear bk0_w4 bk1_w4 bk2_w4 bkF_w4 bkL_w4 at0_w4 at1_w4 at2_w4 atF_w4 atL_w4 rs0_w4 rs1_w4 rs2_w4 rsF_w4 rsL_w4 oL_w4 acc_w4
  refine (HPh.out _ a3 c3 oL_W5.out.row).mono ?_
  rintro e w6 ⟨rfl, hb6⟩
  have bk0_w6 := (hb6.cell bkL_W5).trans bk0_W5
  have bk1_w6 := (hb6.cell bkL_W5).trans bk1_W5
  have bk2_w6 := (hb6.cell bkL_W5).trans bk2_W5
  have bkF_w6 : ∀ o, w6.frozen? ⟨w.heap.size, o, none⟩ = false := fun o => (hb6.frozen bkL_W5).trans (bkF_W5 o)
  have bkL_w6 : w.heap.size < w6.heap.size := Nat.lt_of_lt_of_le bkL_W5 hb6.size
  have at0_w6 := (hb6.cell atL_W5).trans at0_W5
  have at1_w6 := (hb6.cell atL_W5).trans at1_W5
  have at2_w6 := (hb6.cell atL_W5).trans at2_W5
  have atF_w6 : ∀ o, w6.frozen? ⟨w.heap.size + 1, o, none⟩ = false := fun o => (hb6.frozen atL_W5).trans (atF_W5 o)
  have atL_w6 : w.heap.size + 1 < w6.heap.size := Nat.lt_of_lt_of_le atL_W5 hb6.size
  have rs0_w6 := (hb6.cell rsL_W5).trans rs0_W5
  have rs1_w6 := (hb6.cell rsL_W5).trans rs1_W5
  have rs2_w6 := (hb6.cell rsL_W5).trans rs2_W5
  have rsF_w6 : ∀ o, w6.frozen? ⟨w.heap.size + 1 + 1, o, none⟩ = false := fun o => (hb6.frozen rsL_W5).trans (rsF_W5 o)
  have rsL_w6 : w.heap.size + 1 + 1 < w6.heap.size := Nat.lt_of_lt_of_le rsL_W5 hb6.size
  have oL_w6 := hidP (OwnG.later oL_W5.out hb6)
  have acc_w6 := hidP (acc_W5.out.trans (hb6.mono acc_W5.out.size))
  have sz_w6 : Hid (W5.heap.size ≤ w6.heap.size) := hidP hb6.size
  clear hb6 bk0_W5 bk1_W5 bk2_W5 bkF_W5 bkL_W5 at0_W5 at1_W5 at2_W5 atF_W5 atL_W5 rs0_W5 rs1_W5 rs2_W5 rsF_W5 rsL_W5 oL_W5 acc_W5
  go_wp2_with fail
  have bk0_W7 : (w6.setCell ⟨w.heap.size, 1, none⟩ (.int .i64 (T + 1))).cell? ⟨w.heap.size, 0, none⟩ = some (.slice a3 n c3) := by simp [go_sem, bk0_w6]
  have bk1_W7 : (w6.setCell ⟨w.heap.size, 1, none⟩ (.int .i64 (T + 1))).cell? ⟨w.heap.size, 1, none⟩ = some (.int .i64 (T + 1)) := by simp [go_sem, bk1_w6]
  have bk2_W7 : (w6.setCell ⟨w.heap.size, 1, none⟩ (.int .i64 (T + 1))).cell? ⟨w.heap.size, 2, none⟩ = some (.int .i64 N) := by simp [go_sem, bk2_w6]
  have bkF_W7 : ∀ o, (w6.setCell ⟨w.heap.size, 1, none⟩ (.int .i64 (T + 1))).frozen? ⟨w.heap.size, o, none⟩ = false := fun o => frz_set1 ((bkF_w6 o))
  have bkL_W7 : w.heap.size < (w6.setCell ⟨w.heap.size, 1, none⟩ (.int .i64 (T + 1))).heap.size := by simpa using bkL_w6
  have at0_W7 : (w6.setCell ⟨w.heap.size, 1, none⟩ (.int .i64 (T + 1))).cell? ⟨w.heap.size + 1, 0, none⟩ = some (.bool ad.s) := cell_set1 (at0_w6) (by have := as_W1.out; have := sz_W1.out; have := as_W2.out; have := sz_W2.out; have := as_W3.out; have := sz_W3.out; have := sz_w4.out; have := sz_W5.out; have := sz_w6.out; omega)
  have at1_W7 : (w6.setCell ⟨w.heap.size, 1, none⟩ (.int .i64 (T + 1))).cell? ⟨w.heap.size + 1, 1, none⟩ = some (.int .i64 ad.H.toInt) := cell_set1 (at1_w6) (by have := as_W1.out; have := sz_W1.out; have := as_W2.out; have := sz_W2.out; have := as_W3.out; have := sz_W3.out; have := sz_w4.out; have := sz_W5.out; have := sz_w6.out; omega)
  have at2_W7 : (w6.setCell ⟨w.heap.size, 1, none⟩ (.int .i64 (T + 1))).cell? ⟨w.heap.size + 1, 2, none⟩ = some (.int .i64 ad.L.toInt) := cell_set1 (at2_w6) (by have := as_W1.out; have := sz_W1.out; have := as_W2.out; have := sz_W2.out; have := as_W3.out; have := sz_W3.out; have := sz_w4.out; have := sz_W5.out; have := sz_w6.out; omega)
  have atF_W7 : ∀ o, (w6.setCell ⟨w.heap.size, 1, none⟩ (.int .i64 (T + 1))).frozen? ⟨w.heap.size + 1, o, none⟩ = false := fun o => frz_set1 ((atF_w6 o))
  have atL_W7 : w.heap.size + 1 < (w6.setCell ⟨w.heap.size, 1, none⟩ (.int .i64 (T + 1))).heap.size := by simpa using atL_w6
  have rs0_W7 : (w6.setCell ⟨w.heap.size, 1, none⟩ (.int .i64 (T + 1))).cell? ⟨w.heap.size + 1 + 1, 0, none⟩ = some (.slice none 0 0) := cell_set1 (rs0_w6) (by have := as_W1.out; have := sz_W1.out; have := as_W2.out; have := sz_W2.out; have := as_W3.out; have := sz_W3.out; have := sz_w4.out; have := sz_W5.out; have := sz_w6.out; omega)
  have rs1_W7 : (w6.setCell ⟨w.heap.size, 1, none⟩ (.int .i64 (T + 1))).cell? ⟨w.heap.size + 1 + 1, 1, none⟩ = some (.int .i64 0) := cell_set1 (rs1_w6) (by have := as_W1.out; have := sz_W1.out; have := as_W2.out; have := sz_W2.out; have := as_W3.out; have := sz_W3.out; have := sz_w4.out; have := sz_W5.out; have := sz_w6.out; omega)
  have rs2_W7 : (w6.setCell ⟨w.heap.size, 1, none⟩ (.int .i64 (T + 1))).cell? ⟨w.heap.size + 1 + 1, 2, none⟩ = some (.int .i64 0) := cell_set1 (rs2_w6) (by have := as_W1.out; have := sz_W1.out; have := as_W2.out; have := sz_W2.out; have := as_W3.out; have := sz_W3.out; have := sz_w4.out; have := sz_W5.out; have := sz_w6.out; omega)
  have rsF_W7 : ∀ o, (w6.setCell ⟨w.heap.size, 1, none⟩ (.int .i64 (T + 1))).frozen? ⟨w.heap.size + 1 + 1, o, none⟩ = false := fun o => frz_set1 ((rsF_w6 o))
  have rsL_W7 : w.heap.size + 1 + 1 < (w6.setCell ⟨w.heap.size, 1, none⟩ (.int .i64 (T + 1))).heap.size := by simpa using rsL_w6
  have oL_W7 : Hid (OwnG KLs 35 (w6.setCell ⟨w.heap.size, 1, none⟩ (.int .i64 (T + 1))) (W3.heap.size) (.slice a3 n c3) (ls)) := hidP (OwnG.grown (oL_w6.out) (grown_cellG _ _ _ _) (OwnG.ne_of oL_w6.out (by have := as_W1.out; have := sz_W1.out; have := as_W2.out; have := sz_W2.out; have := as_W3.out; have := sz_W3.out; have := sz_w4.out; have := sz_W5.out; have := sz_w6.out; omega)))
  have acc_W7 : Hid (Below w.heap.size w (w6.setCell ⟨w.heap.size, 1, none⟩ (.int .i64 (T + 1)))) := hidP (Below.setCell (acc_w6.out) (by have := as_W1.out; have := sz_W1.out; have := as_W2.out; have := sz_W2.out; have := as_W3.out; have := sz_W3.out; have := sz_w4.out; have := sz_W5.out; have := sz_w6.out; try dsimp only; omega) _)
  have sz_W7 : Hid ((w6.setCell ⟨w.heap.size, 1, none⟩ (.int .i64 (T + 1))).heap.size = w6.heap.size) := hidP (by simp)
  generalize w6.setCell ⟨w.heap.size, 1, none⟩ (.int .i64 (T + 1)) = W7 at *
  clear bk0_w6 bk1_w6 bk2_w6 bkF_w6 bkL_w6 at0_w6 at1_w6 at2_w6 atF_w6 atL_w6 rs0_w6 rs1_w6 rs2_w6 rsF_w6 rsL_w6 oL_w6 acc_w6
  have hv8 : (W7.alloc (.cells #[.bool ad.s, .int .i64 ad.H.toInt, .int .i64 ad.L.toInt, .string own, .int .i64 (T + 1), .int .i64 (N + span)] 35)).heap[W7.heap.size]? = some (.cells (KLs.cs ⟨ad, own, T + 1, N + span⟩).toArray 35) := heap_alloc_new W7 _
  have ab_W8 := alloc_below W7 (.cells #[.bool ad.s, .int .i64 ad.H.toInt, .int .i64 ad.L.toInt, .string own, .int .i64 (T + 1), .int .i64 (N + span)] 35)
  have as_W8 : Hid ((W7.alloc (.cells #[.bool ad.s, .int .i64 ad.H.toInt, .int .i64 ad.L.toInt, .string own, .int .i64 (T + 1), .int .i64 (N + span)] 35)).heap.size = W7.heap.size + 1) := hidP (by simp)
  generalize W7.alloc (.cells #[.bool ad.s, .int .i64 ad.H.toInt, .int .i64 ad.L.toInt, .string own, .int .i64 (T + 1), .int .i64 (N + span)] 35) = W8 at *
  have bk0_W8 := (ab_W8.cell bkL_W7).trans bk0_W7
  have bk1_W8 := (ab_W8.cell bkL_W7).trans bk1_W7
  have bk2_W8 := (ab_W8.cell bkL_W7).trans bk2_W7
  have bkF_W8 : ∀ o, W8.frozen? ⟨w.heap.size, o, none⟩ = false := fun o => (ab_W8.frozen bkL_W7).trans (bkF_W7 o)
  have bkL_W8 : w.heap.size < W8.heap.size := Nat.lt_of_lt_of_le bkL_W7 ab_W8.size
  have at0_W8 := (ab_W8.cell atL_W7).trans at0_W7
  have at1_W8 := (ab_W8.cell atL_W7).trans at1_W7
  have at2_W8 := (ab_W8.cell atL_W7).trans at2_W7
  have atF_W8 : ∀ o, W8.frozen? ⟨w.heap.size + 1, o, none⟩ = false := fun o => (ab_W8.frozen atL_W7).trans (atF_W7 o)
  have atL_W8 : w.heap.size + 1 < W8.heap.size := Nat.lt_of_lt_of_le atL_W7 ab_W8.size
  have rs0_W8 := (ab_W8.cell rsL_W7).trans rs0_W7
  have rs1_W8 := (ab_W8.cell rsL_W7).trans rs1_W7
  have rs2_W8 := (ab_W8.cell rsL_W7).trans rs2_W7
  have rsF_W8 : ∀ o, W8.frozen? ⟨w.heap.size + 1 + 1, o, none⟩ = false := fun o => (ab_W8.frozen rsL_W7).trans (rsF_W7 o)
  have rsL_W8 : w.heap.size + 1 + 1 < W8.heap.size := Nat.lt_of_lt_of_le rsL_W7 ab_W8.size
  have oL_W8 := hidP (OwnG.later oL_W7.out ab_W8)
  have acc_W8 := hidP (acc_W7.out.trans (ab_W8.mono acc_W7.out.size))
  have sz_W8 : Hid (W7.heap.size ≤ W8.heap.size) := hidP ab_W8.size
  clear ab_W8 bk0_W7 bk1_W7 bk2_W7 bkF_W7 bkL_W7 at0_W7 at1_W7 at2_W7 atF_W7 atL_W7 rs0_W7 rs1_W7 rs2_W7 rsF_W7 rsL_W7 oL_W7 acc_W7
  rw [sz_W7.out] at hv8
  refine (insert_any a3 n c3 W3.heap.size w6.heap.size I ls ⟨ad, own, T + 1, N + span⟩ W8 HN.out hI hl oL_W8.out hv8 (fun k hk e => by have h5 := lhL.out k hk; have := as_W1.out; have := sz_W1.out; have := as_W2.out; have := sz_W2.out; have := as_W3.out; have := sz_W3.out; have := sz_w4.out; have := sz_W5.out; have := sz_w6.out; have := sz_W7.out; have := as_W8.out; have := sz_W8.out; omega) (by have := as_W1.out; have := sz_W1.out; have := as_W2.out; have := sz_W2.out; have := as_W3.out; have := sz_W3.out; have := sz_w4.out; have := sz_W5.out; have := sz_w6.out; have := sz_W7.out; have := as_W8.out; have := sz_W8.out; omega)).mono ?_
  rintro e w9 ⟨a9, c9, rfl, oI, hg9⟩
  have OI := hidP oI
  clear oI hv8
  have nebk : ∀ k, (Value.slice a3 n c3).ownBlock = some k → k ≠ w.heap.size := fun k hk => by have h5 := lhL.out k hk; have := as_W1.out; have := sz_W1.out; have := as_W2.out; have := sz_W2.out; have := as_W3.out; have := sz_W3.out; have := sz_w4.out; have := sz_W5.out; have := sz_w6.out; have := sz_W7.out; have := as_W8.out; have := sz_W8.out; omega
  have bk0_w9 := cell_grown hg9 bk0_W8 nebk
  have bk1_w9 := cell_grown hg9 bk1_W8 nebk
  have bk2_w9 := cell_grown hg9 bk2_W8 nebk
  have bkF_w9 : ∀ o, w9.frozen? ⟨w.heap.size, o, none⟩ = false := fun o => frz_grownZ hg9 bkL_W8 (bkF_W8 o) nebk
  have bkL_w9 : w.heap.size < w9.heap.size := Nat.lt_of_lt_of_le bkL_W8 hg9.size
  have neat : ∀ k, (Value.slice a3 n c3).ownBlock = some k → k ≠ w.heap.size + 1 := fun k hk => by have h5 := lhL.out k hk; have := as_W1.out; have := sz_W1.out; have := as_W2.out; have := sz_W2.out; have := as_W3.out; have := sz_W3.out; have := sz_w4.out; have := sz_W5.out; have := sz_w6.out; have := sz_W7.out; have := as_W8.out; have := sz_W8.out; omega
  have at0_w9 := cell_grown hg9 at0_W8 neat
  have at1_w9 := cell_grown hg9 at1_W8 neat
  have at2_w9 := cell_grown hg9 at2_W8 neat
  have atF_w9 : ∀ o, w9.frozen? ⟨w.heap.size + 1, o, none⟩ = false := fun o => frz_grownZ hg9 atL_W8 (atF_W8 o) neat
  have atL_w9 : w.heap.size + 1 < w9.heap.size := Nat.lt_of_lt_of_le atL_W8 hg9.size
  have ners : ∀ k, (Value.slice a3 n c3).ownBlock = some k → k ≠ w.heap.size + 1 + 1 := fun k hk => by have h5 := lhL.out k hk; have := as_W1.out; have := sz_W1.out; have := as_W2.out; have := sz_W2.out; have := as_W3.out; have := sz_W3.out; have := sz_w4.out; have := sz_W5.out; have := sz_w6.out; have := sz_W7.out; have := as_W8.out; have := sz_W8.out; omega
  have rs0_w9 := cell_grown hg9 rs0_W8 ners
  have rs1_w9 := cell_grown hg9 rs1_W8 ners
  have rs2_w9 := cell_grown hg9 rs2_W8 ners
  have rsF_w9 : ∀ o, w9.frozen? ⟨w.heap.size + 1 + 1, o, none⟩ = false := fun o => frz_grownZ hg9 rsL_W8 (rsF_W8 o) ners
  have rsL_w9 : w.heap.size + 1 + 1 < w9.heap.size := Nat.lt_of_lt_of_le rsL_W8 hg9.size
  have oL_w9 := hidP (OI.out)
  have acc_w9 := hidP (Below.grown acc_W8.out hg9 acc_W8.out.size (fun k hk => by have h5 := lhL.out k hk; have := as_W1.out; have := sz_W1.out; have := as_W2.out; have := sz_W2.out; have := as_W3.out; have := sz_W3.out; have := sz_w4.out; have := sz_W5.out; have := sz_w6.out; have := sz_W7.out; have := as_W8.out; have := sz_W8.out; omega))
  have sz_w9 : Hid (W8.heap.size ≤ w9.heap.size) := hidP hg9.size
  clear hg9 bk0_W8 bk1_W8 bk2_W8 bkF_W8 bkL_W8 nebk at0_W8 at1_W8 at2_W8 atF_W8 atL_W8 neat rs0_W8 rs1_W8 rs2_W8 rsF_W8 rsL_W8 ners oL_W8 acc_W8
  clear OI
  go_wp2_with fail
  have bk0_W10 : (w9.setCell ⟨w.heap.size, 0, none⟩ (.slice a9 (n + 1) c9)).cell? ⟨w.heap.size, 0, none⟩ = some (.slice a9 (n + 1) c9) := by simp [go_sem, bk0_w9]
  have bk1_W10 : (w9.setCell ⟨w.heap.size, 0, none⟩ (.slice a9 (n + 1) c9)).cell? ⟨w.heap.size, 1, none⟩ = some (.int .i64 (T + 1)) := by simp [go_sem, bk1_w9]
  have bk2_W10 : (w9.setCell ⟨w.heap.size, 0, none⟩ (.slice a9 (n + 1) c9)).cell? ⟨w.heap.size, 2, none⟩ = some (.int .i64 N) := by simp [go_sem, bk2_w9]
  have bkF_W10 : ∀ o, (w9.setCell ⟨w.heap.size, 0, none⟩ (.slice a9 (n + 1) c9)).frozen? ⟨w.heap.size, o, none⟩ = false := fun o => frz_set1 ((bkF_w9 o))
  have bkL_W10 : w.heap.size < (w9.setCell ⟨w.heap.size, 0, none⟩ (.slice a9 (n + 1) c9)).heap.size := by simpa using bkL_w9
  have at0_W10 : (w9.setCell ⟨w.heap.size, 0, none⟩ (.slice a9 (n + 1) c9)).cell? ⟨w.heap.size + 1, 0, none⟩ = some (.bool ad.s) := cell_set1 (at0_w9) (by have := as_W1.out; have := sz_W1.out; have := as_W2.out; have := sz_W2.out; have := as_W3.out; have := sz_W3.out; have := sz_w4.out; have := sz_W5.out; have := sz_w6.out; have := sz_W7.out; have := as_W8.out; have := sz_W8.out; have := sz_w9.out; omega)
  have at1_W10 : (w9.setCell ⟨w.heap.size, 0, none⟩ (.slice a9 (n + 1) c9)).cell? ⟨w.heap.size + 1, 1, none⟩ = some (.int .i64 ad.H.toInt) := cell_set1 (at1_w9) (by have := as_W1.out; have := sz_W1.out; have := as_W2.out; have := sz_W2.out; have := as_W3.out; have := sz_W3.out; have := sz_w4.out; have := sz_W5.out; have := sz_w6.out; have := sz_W7.out; have := as_W8.out; have := sz_W8.out; have := sz_w9.out; omega)
  have at2_W10 : (w9.setCell ⟨w.heap.size, 0, none⟩ (.slice a9 (n + 1) c9)).cell? ⟨w.heap.size + 1, 2, none⟩ = some (.int .i64 ad.L.toInt) := cell_set1 (at2_w9) (by have := as_W1.out; have := sz_W1.out; have := as_W2.out; have := sz_W2.out; have := as_W3.out; have := sz_W3.out; have := sz_w4.out; have := sz_W5.out; have := sz_w6.out; have := sz_W7.out; have := as_W8.out; have := sz_W8.out; have := sz_w9.out; omega)
  have atF_W10 : ∀ o, (w9.setCell ⟨w.heap.size, 0, none⟩ (.slice a9 (n + 1) c9)).frozen? ⟨w.heap.size + 1, o, none⟩ = false := fun o => frz_set1 ((atF_w9 o))
  have atL_W10 : w.heap.size + 1 < (w9.setCell ⟨w.heap.size, 0, none⟩ (.slice a9 (n + 1) c9)).heap.size := by simpa using atL_w9
  have rs0_W10 : (w9.setCell ⟨w.heap.size, 0, none⟩ (.slice a9 (n + 1) c9)).cell? ⟨w.heap.size + 1 + 1, 0, none⟩ = some (.slice none 0 0) := cell_set1 (rs0_w9) (by have := as_W1.out; have := sz_W1.out; have := as_W2.out; have := sz_W2.out; have := as_W3.out; have := sz_W3.out; have := sz_w4.out; have := sz_W5.out; have := sz_w6.out; have := sz_W7.out; have := as_W8.out; have := sz_W8.out; have := sz_w9.out; omega)
  have rs1_W10 : (w9.setCell ⟨w.heap.size, 0, none⟩ (.slice a9 (n + 1) c9)).cell? ⟨w.heap.size + 1 + 1, 1, none⟩ = some (.int .i64 0) := cell_set1 (rs1_w9) (by have := as_W1.out; have := sz_W1.out; have := as_W2.out; have := sz_W2.out; have := as_W3.out; have := sz_W3.out; have := sz_w4.out; have := sz_W5.out; have := sz_w6.out; have := sz_W7.out; have := as_W8.out; have := sz_W8.out; have := sz_w9.out; omega)
  have rs2_W10 : (w9.setCell ⟨w.heap.size, 0, none⟩ (.slice a9 (n + 1) c9)).cell? ⟨w.heap.size + 1 + 1, 2, none⟩ = some (.int .i64 0) := cell_set1 (rs2_w9) (by have := as_W1.out; have := sz_W1.out; have := as_W2.out; have := sz_W2.out; have := as_W3.out; have := sz_W3.out; have := sz_w4.out; have := sz_W5.out; have := sz_w6.out; have := sz_W7.out; have := as_W8.out; have := sz_W8.out; have := sz_w9.out; omega)
  have rsF_W10 : ∀ o, (w9.setCell ⟨w.heap.size, 0, none⟩ (.slice a9 (n + 1) c9)).frozen? ⟨w.heap.size + 1 + 1, o, none⟩ = false := fun o => frz_set1 ((rsF_w9 o))
  have rsL_W10 : w.heap.size + 1 + 1 < (w9.setCell ⟨w.heap.size, 0, none⟩ (.slice a9 (n + 1) c9)).heap.size := by simpa using rsL_w9
  have oL_W10 : Hid (OwnG KLs 35 (w9.setCell ⟨w.heap.size, 0, none⟩ (.slice a9 (n + 1) c9)) (W3.heap.size) (.slice a9 (n + 1) c9) (ls.take I ++ [⟨ad, own, T + 1, N + span⟩] ++ ls.drop I)) := hidP (OwnG.grown (oL_w9.out) (grown_cellG _ _ _ _) (OwnG.ne_of oL_w9.out (by have := as_W1.out; have := sz_W1.out; have := as_W2.out; have := sz_W2.out; have := as_W3.out; have := sz_W3.out; have := sz_w4.out; have := sz_W5.out; have := sz_w6.out; have := sz_W7.out; have := as_W8.out; have := sz_W8.out; have := sz_w9.out; omega)))
  have acc_W10 : Hid (Below w.heap.size w (w9.setCell ⟨w.heap.size, 0, none⟩ (.slice a9 (n + 1) c9))) := hidP (Below.setCell (acc_w9.out) (by have := as_W1.out; have := sz_W1.out; have := as_W2.out; have := sz_W2.out; have := as_W3.out; have := sz_W3.out; have := sz_w4.out; have := sz_W5.out; have := sz_w6.out; have := sz_W7.out; have := as_W8.out; have := sz_W8.out; have := sz_w9.out; try dsimp only; omega) _)
  have sz_W10 : Hid ((w9.setCell ⟨w.heap.size, 0, none⟩ (.slice a9 (n + 1) c9)).heap.size = w9.heap.size) := hidP (by simp)
  generalize w9.setCell ⟨w.heap.size, 0, none⟩ (.slice a9 (n + 1) c9) = W10 at *
  clear bk0_w9 bk1_w9 bk2_w9 bkF_w9 bkL_w9 at0_w9 at1_w9 at2_w9 atF_w9 atL_w9 rs0_w9 rs1_w9 rs2_w9 rsF_w9 rsL_w9 oL_w9 acc_w9
  go_region
  all_goals go_wp2_with fail
  refine bodyPost_ret (v := .tuple #[.agg #[.slice a9 (n + 1) c9, .int .i64 (T + 1), .int .i64 N], .int .i64 (T + 1), .int .i64 0]) (by simp [results, Tryz.results7, go_sem, rs0_W10, rs1_W10, rs2_W10]) rfl ⟨_, _, rfl, ?_, ?_⟩
  · refine OwnG.mono (B := W3.heap.size) ?_ (by have := as_W1.out; have := sz_W1.out; have := as_W2.out; have := sz_W2.out; have := as_W3.out; have := sz_W3.out; have := sz_w4.out; have := sz_W5.out; have := sz_w6.out; have := sz_W7.out; have := as_W8.out; have := sz_W8.out; have := sz_w9.out; have := sz_W10.out; omega)
    refine OwnG.drewG ?_
    iterate 3 (with_reducible refine OwnG.grown ?_ (grown_cellG _ _ _ _) ?_; rotate_left; (focus (exact OwnG.ne_of oL_W10.out (by have := as_W1.out; have := sz_W1.out; have := as_W2.out; have := sz_W2.out; have := as_W3.out; have := sz_W3.out; have := sz_w4.out; have := sz_W5.out; have := sz_w6.out; have := sz_W7.out; have := as_W8.out; have := sz_W8.out; have := sz_w9.out; have := sz_W10.out; omega))))
    with_reducible exact oL_W10.out
  · refine Below.drew ?_; repeat (with_reducible refine Below.setCell ?_ ?_ _; rotate_left; (focus (first | (simp; done) | (simp; omega))))
    exact acc_W10.out

end Go.Proofs.YtddnofonodgneaaGreatDoor
namespace Go.Proofs.YtddnofonodgneaaGreatDoor
open Go.RowKit

def putL (ls : List Ls) (I : Nat) (x : Ls) : List Ls := ls.take I ++ [x] ++ ls.drop I
theorem putL_at {ls : List Ls} {I : Nat} {x : Ls} (h : I ≤ ls.length) : (putL ls I x)[I]? = some x := by
  unfold putL
  have hl : (ls.take I).length = I := by rw [List.length_take]; omega
  rw [List.append_assoc, List.getElem?_append_right (by omega), hl, Nat.sub_self]
  rfl
theorem putL_len {ls : List Ls} {I : Nat} {x : Ls} : (putL ls I x).length = ls.length + 1 := by
  unfold putL
  rw [List.length_append, List.length_append, List.length_take, List.length_drop]
  simp
  omega
theorem putL_erase {ls : List Ls} {I : Nat} {x : Ls} (h : I ≤ ls.length) : (putL ls I x).eraseIdx I = ls := by
  unfold putL
  have hl : (ls.take I).length = I := by rw [List.length_take]; omega
  rw [List.append_assoc, List.eraseIdx_append_of_length_le (by omega), hl, Nat.sub_self]
  show ls.take I ++ ls.drop I = ls
  exact List.take_append_drop I ls
theorem putL_mem {ls : List Ls} {I : Nat} {x y : Ls} (h : y ∈ putL ls I x) : y = x ∨ y ∈ ls := by
  unfold putL at h
  rcases List.mem_append.1 h with h | h
  · rcases List.mem_append.1 h with h | h
    · exact Or.inr (List.mem_of_mem_take h)
    · exact Or.inl (List.mem_singleton.1 h)
  · exact Or.inr (List.mem_of_mem_drop h)
theorem putL_perm (ls : List Ls) (I : Nat) (x : Ls) : (putL ls I x).Perm (x :: ls) := by
  unfold putL
  rw [List.append_assoc]
  have h : (ls.take I ++ x :: ls.drop I).Perm (x :: (ls.take I ++ ls.drop I)) := List.perm_middle
  rw [List.take_append_drop] at h
  exact h
theorem ok_more {T T' N : Int} {x : Ls} (h : okLs T N x = true) (ht : T ≤ T') : okLs T' N x = true := by
  unfold okLs at *
  simp only [Bool.and_eq_true, decide_eq_true_eq] at *
  exact ⟨h.1, ⟨h.2.1.1, by omega⟩, h.2.2⟩
theorem ok_tok {T N : Int} {x : Ls} (h : okLs T N x = true) : x.k ≤ T := by
  unfold okLs at h
  simp only [Bool.and_eq_true, decide_eq_true_eq] at h
  exact h.2.1.2
theorem bk_more {ls : List Ls} {T T' N : Int} (h : bkB ls T N = true) (ht : T ≤ T') (h9 : T' ≤ 1000000000) : bkB ls T' N = true := by
  obtain ⟨h1, h2, h3, h4, h5, h6⟩ := bk_iff.1 h
  exact bk_iff.2 ⟨h1, ⟨by omega, h9⟩, h3, fun x hx => ok_more (h4 x hx) ht, h5, h6⟩
theorem fx_no {ls : List Ls} {ad : Ad} (h : fxL ls ad = none) : ∀ q ∈ ls, q.a.key ≠ ad.key := by
  unfold fxL at h
  rw [List.findIdx?_eq_none_iff] at h
  intro q hq
  simpa using h q hq
theorem bk_put {ls : List Ls} {K N : Int} {I : Nat} {x : Ls} (h : bkB ls K N = true) (hl : ls.length < 80) (hK : K < 1000000000) (hI : LowAt ls x.a I) (hx : fxL ls x.a = none) (hk : x.k = K + 1) (ho : okLs (K + 1) N x = true) : bkB (putL ls I x) (K + 1) N = true := by
  obtain ⟨h1, h2, h3, h4, h5, h6⟩ := bk_iff.1 h
  obtain ⟨i1, i2, i3⟩ := hI
  have hp := putL_perm ls I x
  refine bk_iff.2 ⟨by rw [putL_len]; omega, ⟨by omega, by omega⟩, h3, fun y hy => ?_, ?_, ?_⟩
  · rcases putL_mem hy with e | e
    · subst e; exact ho
    · exact ok_more (h4 y e) (by omega)
  · have hc := h5
    rw [← List.take_append_drop I ls, List.pairwise_append] at hc
    obtain ⟨p1, p2, p3⟩ := hc
    have t1 : ∀ y ∈ ls.take I, y.a.key < x.a.key := fun y hy => by
      obtain ⟨j, hj⟩ := List.mem_iff_getElem?.1 hy
      have hjI : j < I := by
        have := (List.getElem?_eq_some_iff.1 hj).1
        rw [List.length_take] at this; omega
      rw [List.getElem?_take_of_lt hjI] at hj
      exact i2 j y hjI hj
    have t2 : ∀ y ∈ ls.drop I, x.a.key < y.a.key := fun y hy => by
      obtain ⟨j, hj⟩ := List.mem_iff_getElem?.1 hy
      rw [List.getElem?_drop] at hj
      have g1 := i3 (I + j) y (by omega) hj
      have g2 := fx_no hx y (List.mem_of_getElem? hj)
      omega
    unfold putL
    rw [List.append_assoc, List.pairwise_append]
    refine ⟨p1, List.pairwise_cons.2 ⟨t2, p2⟩, fun y hy z hz => ?_⟩
    rcases List.mem_cons.1 hz with e | e
    · subst e; exact t1 y hy
    · exact p3 y hy z e
  · rw [(hp.map _).nodup_iff, List.map_cons, List.nodup_cons]
    refine ⟨fun hm => ?_, h6⟩
    obtain ⟨y, hy, e⟩ := List.mem_map.1 hm
    have := ok_tok (h4 y hy)
    omega
theorem fx_idx {ls : List Ls} {T N : Int} {q : Ls} {I : Nat} (h : bkB ls T N = true) (hq : ls[I]? = some q) : fxL ls q.a = some I :=
  fx_some hq rfl (fun j r hj hr => by have := (srt_bk h).1.1 j I r q hj hr hq; omega)

theorem grant_yes (n : Nat) (N : Int) (ls : List Ls) (ad : Ad) (own : ByteArray) (span : Int) (hn : n = ls.length) (hl : n ≤ 1048576) (hst : ∀ q ∈ ls, q.t.size ≤ 9223372036854775807) (hos : own.size ≤ 9223372036854775807) (T : Int) (hr : gokB ls T N ad own span = true) (hx : fxL ls ad = none) (hn80 : ¬ n = 80) : ∃ I, LowAt ls ad I ∧ n < 80 ∧ (0 ≤ T ∧ T < 1000000000) ∧ (∀ (W : World) (a : Option Addr) (c : Nat), RowG KLs W a ls → Calls Tryz.prog 7 #[.agg #[.slice a n c, .int .i64 T, .int .i64 N], .agg #[.bool ad.s, .int .i64 ad.H.toInt, .int .i64 ad.L.toInt], .string own, .int .i64 span] W fun e w' => ∃ a' c', e = .returned (.tuple #[.agg #[.slice a' (n + 1) c', .int .i64 (T + 1), .int .i64 N], .int .i64 (T + 1), .int .i64 0]) ∧ OwnG KLs 35 w' W.heap.size (.slice a' (n + 1) c') (putL ls I ⟨ad, own, T + 1, N + span⟩) ∧ Below W.heap.size W w') ∧ (∀ (W : World) (a : Option Addr) (c : Nat), RowG KLs W a ls → (a = none → c = 0) → Calls Tryz.prog 8 #[.agg #[.slice a n c, .int .i64 T, .int .i64 N], .agg #[.bool ad.s, .int .i64 ad.H.toInt, .int .i64 ad.L.toInt], .string own, .int .i64 span] W fun e w' => ∃ (b1 : Option Addr) (m1 c1 : Nat) (k1 k2 : Int), e = .returned (.tuple #[.agg #[.slice b1 m1 c1, .int .i64 k1, .int .i64 N], .int .i64 k2, .int .i64 0]) ∧ Below W.heap.size W w') := by
  have hr0 := hr
  unfold gokB at hr0
  simp only [Bool.and_eq_true] at hr0
  obtain ⟨hb, _, _, ⟨⟨h1, h1b⟩, h2⟩, hT0⟩ := hr0
  have h80 := (srt_bk hb).2
  have hw := (sp_wrap (bk_now hb) (show (decide (1 ≤ span) && decide (span ≤ 1000)) = true by rw [h1, h1b]; rfl)).1
  obtain ⟨I, hI⟩ := low_ex (ad := ad) (srt_bk hb).1
  have hTb := bk_tok hb
  have hT : 0 ≤ T ∧ T < 1000000000 := by
    have : ¬ T = 1000000000 := by simpa using hT0
    omega
  exact ⟨I, hI, by omega, hT, fun W a c e1 => iGr_yes a n c T N ls ad own span W hn e1 hl hT hw I (by have := hI.1; omega) (fun W' a c e => ptg_yes a n c T N ls ad own span W' hn e hl hst hos hr hx hn80 I hI), fun W a c e1 hc => (sGr_yes a n c T N ls ad own span W hn e1 hl hc hst hos hr hx (by omega) I hI).mono fun e w' ⟨a', c', h1, _, h3⟩ => ⟨_, _, _, _, _, h1, h3⟩⟩
theorem grant_split (n : Nat) (K N : Int) (ls : List Ls) (ad : Ad) (own : ByteArray) (span : Int) (hn : n = ls.length) (hl : n ≤ 1048576) (hst : ∀ q ∈ ls, q.t.size ≤ 9223372036854775807) (hos : own.size ≤ 9223372036854775807) : (∃ C : Int, (C != 0) = true ∧ (∀ (W : World) (a : Option Addr) (c : Nat), RowG KLs W a ls → GlobE W → Calls Tryz.prog 7 #[.agg #[.slice a n c, .int .i64 K, .int .i64 N], .agg #[.bool ad.s, .int .i64 ad.H.toInt, .int .i64 ad.L.toInt], .string own, .int .i64 span] W fun e w' => ∃ a' c', e = .returned (.tuple #[.agg #[.slice a' n c', .int .i64 K, .int .i64 N], .int .i64 0, .int .i64 C]) ∧ OwnG KLs 35 w' W.heap.size (.slice a' n c') ls ∧ Below W.heap.size W w') ∧ (∀ (W : World) (a : Option Addr) (c : Nat), RowG KLs W a ls → (a = none → c = 0) → Calls Tryz.prog 8 #[.agg #[.slice a n c, .int .i64 K, .int .i64 N], .agg #[.bool ad.s, .int .i64 ad.H.toInt, .int .i64 ad.L.toInt], .string own, .int .i64 span] W fun e w' => ∃ (b1 : Option Addr) (m1 c1 : Nat) (k1 k2 : Int), e = .returned (.tuple #[.agg #[.slice b1 m1 c1, .int .i64 k1, .int .i64 N], .int .i64 k2, .int .i64 C]) ∧ Below W.heap.size W w')) ∨ (∃ I : Nat, 0 ≤ K ∧ K < 1000000000 ∧ n < 80 ∧ (∀ q ∈ ls, q.k < K + 1) ∧ n + 1 = (putL ls I (⟨ad, own, K + 1, N + span⟩ : Ls)).length ∧ (∀ q ∈ (putL ls I (⟨ad, own, K + 1, N + span⟩ : Ls)), q.t.size ≤ 9223372036854775807) ∧ bkB (putL ls I (⟨ad, own, K + 1, N + span⟩ : Ls)) (K + 1) N = true ∧ (∀ (W : World) (a : Option Addr) (c : Nat), RowG KLs W a ls → GlobE W → Calls Tryz.prog 7 #[.agg #[.slice a n c, .int .i64 K, .int .i64 N], .agg #[.bool ad.s, .int .i64 ad.H.toInt, .int .i64 ad.L.toInt], .string own, .int .i64 span] W fun e w' => ∃ a' c', e = .returned (.tuple #[.agg #[.slice a' (n + 1) c', .int .i64 (K + 1), .int .i64 N], .int .i64 (K + 1), .int .i64 0]) ∧ OwnG KLs 35 w' W.heap.size (.slice a' (n + 1) c') (putL ls I (⟨ad, own, K + 1, N + span⟩ : Ls)) ∧ Below W.heap.size W w') ∧ (∀ (W : World) (a : Option Addr) (c : Nat), RowG KLs W a ls → (a = none → c = 0) → Calls Tryz.prog 8 #[.agg #[.slice a n c, .int .i64 K, .int .i64 N], .agg #[.bool ad.s, .int .i64 ad.H.toInt, .int .i64 ad.L.toInt], .string own, .int .i64 span] W fun e w' => ∃ (b1 : Option Addr) (m1 c1 : Nat) (k1 k2 : Int), e = .returned (.tuple #[.agg #[.slice b1 m1 c1, .int .i64 k1, .int .i64 N], .int .i64 k2, .int .i64 0]) ∧ Below W.heap.size W w') ∧ (∀ (W : World) (a : Option Addr) (c : Nat), RowG KLs W a (putL ls I (⟨ad, own, K + 1, N + span⟩ : Ls)) → GlobE W → Calls Tryz.prog 10 #[.agg #[.slice a (n + 1) c, .int .i64 (K + 1), .int .i64 N], .agg #[.bool ad.s, .int .i64 ad.H.toInt, .int .i64 ad.L.toInt], .int .i64 (K + 1)] W fun e w' => e = .returned (.tuple #[.string own, .int .i64 0]) ∧ Below W.heap.size W w') ∧ (∀ (W : World) (a : Option Addr) (c : Nat), RowG KLs W a (putL ls I (⟨ad, own, K + 1, N + span⟩ : Ls)) → GlobE W → Calls Tryz.prog 11 #[.agg #[.slice a (n + 1) c, .int .i64 (K + 1), .int .i64 N], .agg #[.bool ad.s, .int .i64 ad.H.toInt, .int .i64 ad.L.toInt], .int .i64 K, .int .i64 span] W fun e w' => ∃ a' c', e = .returned (.tuple #[.agg #[.slice a' (n + 1) c', .int .i64 (K + 1), .int .i64 N], .int .i64 14]) ∧ OwnG KLs 35 w' W.heap.size (.slice a' (n + 1) c') (putL ls I (⟨ad, own, K + 1, N + span⟩ : Ls)) ∧ Below W.heap.size W w') ∧ (∀ (W : World) (a : Option Addr) (c : Nat), RowG KLs W a (putL ls I (⟨ad, own, K + 1, N + span⟩ : Ls)) → GlobE W → Calls Tryz.prog 12 #[.agg #[.slice a (n + 1) c, .int .i64 (K + 1), .int .i64 N], .agg #[.bool ad.s, .int .i64 ad.H.toInt, .int .i64 ad.L.toInt], .int .i64 (K + 2)] W fun e w' => ∃ a' c', e = .returned (.tuple #[.agg #[.slice a' (n + 1) c', .int .i64 (K + 1), .int .i64 N], .int .i64 14]) ∧ OwnG KLs 35 w' W.heap.size (.slice a' (n + 1) c') (putL ls I (⟨ad, own, K + 1, N + span⟩ : Ls)) ∧ Below W.heap.size W w') ∧ (∀ (W : World) (a : Option Addr) (c : Nat), RowG KLs W a (putL ls I (⟨ad, own, K + 1, N + span⟩ : Ls)) → GlobE W → Calls Tryz.prog 12 #[.agg #[.slice a (n + 1) c, .int .i64 (K + 1), .int .i64 N], .agg #[.bool ad.s, .int .i64 ad.H.toInt, .int .i64 ad.L.toInt], .int .i64 (K + 1)] W fun e w' => ∃ a' c', e = .returned (.tuple #[.agg #[.slice a' n c', .int .i64 (K + 1), .int .i64 N], .int .i64 0]) ∧ OwnG KLs 35 w' W.heap.size (.slice a' n c') ls ∧ Below W.heap.size W w') ∧ (∃ S : ByteArray, (∀ (W : World) (a : Option Addr) (c : Nat), RowG KLs W a ls → GlobE W → Calls Tryz.prog 10 #[.agg #[.slice a n c, .int .i64 (K + 1), .int .i64 N], .agg #[.bool ad.s, .int .i64 ad.H.toInt, .int .i64 ad.L.toInt], .int .i64 (K + 1)] W fun e w' => e = .returned (.tuple #[.string S, .int .i64 13]) ∧ Below W.heap.size W w')) ∧ (∃ (n3 : Nat) (T3 A C : Int), ((C != 0) = true ∨ ((C != 0) = false ∧ A = K + 2)) ∧ (∀ (W : World) (a : Option Addr) (c : Nat), RowG KLs W a ls → GlobE W → Calls Tryz.prog 7 #[.agg #[.slice a n c, .int .i64 (K + 1), .int .i64 N], .agg #[.bool ad.s, .int .i64 ad.H.toInt, .int .i64 ad.L.toInt], .string own, .int .i64 span] W fun e w' => ∃ a' c', e = .returned (.tuple #[.agg #[.slice a' n3 c', .int .i64 T3, .int .i64 N], .int .i64 A, .int .i64 C]) ∧ Below W.heap.size W w'))) := by
  cases hr : gokB ls K N ad own span
  · exact Or.inl ⟨10, rfl, fun W a c e1 hg => iGr_no a n c K N ls ad own span W hn e1 hl 10 (fun W' a c e => ptg_form a n c K N ls ad own span W' hn e hl hst hos hr) hg, fun W a c e1 hc => (sGr_form a n c K N ls ad own span W hn e1 hl hc hst hos hr).mono fun e w' ⟨a', c', h1, _, h3⟩ => ⟨_, _, _, _, _, h1, h3⟩⟩
  · cases hx : fxL ls ad with
    | some I => exact Or.inl ⟨11, rfl, fun W a c e1 hg => iGr_no a n c K N ls ad own span W hn e1 hl 11 (fun W' a c e => ptg_held a n c K N ls ad own span W' hn e hl hst hos hr I hx) hg, fun W a c e1 hc => (sGr_held a n c K N ls ad own span W hn e1 hl hc hst hos hr I hx).mono fun e w' ⟨a', c', h1, _, h3⟩ => ⟨_, _, _, _, _, h1, h3⟩⟩
    | none =>
      by_cases hn80 : n = 80
      · exact Or.inl ⟨12, rfl, fun W a c e1 hg => iGr_no a n c K N ls ad own span W hn e1 hl 12 (fun W' a c e => ptg_many a n c K N ls ad own span W' hn e hl hst hos hr hx hn80) hg, fun W a c e1 hc => (sGr_many a n c K N ls ad own span W hn e1 hl hc hst hos hr hx hn80).mono fun e w' ⟨a', c', h1, _, h3⟩ => ⟨_, _, _, _, _, h1, h3⟩⟩
      · right
        obtain ⟨I, hI, hn8, hK, hG, hS⟩ := grant_yes n N ls ad own span hn hl hst hos K hr hx hn80
        have hr0 := hr
        unfold gokB at hr0
        simp only [Bool.and_eq_true, decide_eq_true_eq] at hr0
        obtain ⟨hb, hao, hoo, ⟨⟨h1, h1b⟩, h2⟩, _⟩ := hr0
        have hb0 := bk_iff.1 hb
        have hsp : spB N span = true := by
          unfold spB
          rw [(sp_wrap (bk_now hb) (show (decide (1 ≤ span) && decide (span ≤ 1000)) = true by rw [decide_eq_true h1, decide_eq_true h1b]; rfl)).2, decide_eq_true h1, decide_eq_true h1b, decide_eq_true h2]; rfl
        have hox : okLs (K + 1) N (⟨ad, own, K + 1, N + span⟩ : Ls) = true := by
          unfold okLs
          rw [hao, hoo, decide_eq_true (show (1 : Int) ≤ K + 1 by omega), decide_eq_true (show K + 1 ≤ K + 1 by omega), decide_eq_true (show N < N + span by omega), decide_eq_true h2]; rfl
        have hb1 : bkB (putL ls I (⟨ad, own, K + 1, N + span⟩ : Ls)) (K + 1) N = true := bk_put hb (by omega) hK.2 hI hx rfl hox
        have hat : (putL ls I (⟨ad, own, K + 1, N + span⟩ : Ls))[I]? = some (⟨ad, own, K + 1, N + span⟩ : Ls) := putL_at hI.1
        have hfx : fxL (putL ls I (⟨ad, own, K + 1, N + span⟩ : Ls)) ad = some I := fx_idx hb1 hat
        have hlen : n + 1 = (putL ls I (⟨ad, own, K + 1, N + span⟩ : Ls)).length := by rw [putL_len, hn]
        have hst1 : ∀ q ∈ (putL ls I (⟨ad, own, K + 1, N + span⟩ : Ls)), q.t.size ≤ 9223372036854775807 := fun q hq => by
          rcases putL_mem hq with e | e
          · subst e; exact hos
          · exact hst q e
        have hr1 : (bkB (putL ls I (⟨ad, own, K + 1, N + span⟩ : Ls)) (K + 1) N && ad.ok) = true := by rw [hb1, hao]; rfl
        have hbg : bkB ls (K + 1) N = true := bk_more hb (by omega) (by omega)
        have hrg : (bkB ls (K + 1) N && ad.ok) = true := by rw [hbg, hao]; rfl
        refine ⟨I, hK.1, hK.2, hn8, fun q hq => by have := ok_tok (hb0.2.2.2.1 q hq); omega, hlen, hst1, hb1, fun W a c e1 _ => hG W a c e1, hS, ?_, ?_, ?_, ?_, ?_, ?_⟩
        · exact fun W a c e1 _ => iHolder_yes a (n + 1) c (K + 1) N _ ad (K + 1) W I _ hat hlen e1 (fun W' hb => placeHeld_yes a (n + 1) c (K + 1) N _ ad (K + 1) W' hlen (e1.later hb) (by omega) hst1 hr1 I _ hfx hat rfl)
        · exact fun W a c e1 hg => iRen_no a (n + 1) c (K + 1) N _ ad K span W hlen e1 (by omega) 14 (fun W' a c e => ptr_else a (n + 1) c (K + 1) N ad K span W' hsp _ _ (fun W2 hb2 => placeHeld_fence a (n + 1) c (K + 1) N _ ad K W2 hlen (e.later hb2) (by omega) hst1 hr1 I _ hfx hat (by show ¬ K + 1 = K; omega))) hg
        · exact fun W a c e1 hg => iRel_no a (n + 1) c (K + 1) N _ ad (K + 2) W hlen e1 (by omega) 14 (fun W' a c e => placeHeld_fence a (n + 1) c (K + 1) N _ ad (K + 2) W' hlen e (by omega) hst1 hr1 I _ hfx hat (by show ¬ K + 1 = K + 2; omega)) hg
        · intro W a c e1 hg
          refine (iRel_yes a (n + 1) c (K + 1) N _ ad (K + 1) W hlen e1 (by omega) I (by have := hI.1; omega) (fun W' a c e => placeHeld_yes a (n + 1) c (K + 1) N _ ad (K + 1) W' hlen e (by omega) hst1 hr1 I _ hfx hat rfl)).mono fun e w' ⟨a', c', h1, h2, h3⟩ => ?_
          rw [putL_erase hI.1] at h2
          exact ⟨a', c', h1, h2, h3⟩
        · exact ⟨⟨#[]⟩, fun W a c e1 hg => iHolder_no a n c (K + 1) N ls ad (K + 1) W 13 (fun W' hb => placeHeld_none a n c (K + 1) N ls ad (K + 1) W' hn (e1.later hb) hl hst hrg hx) hg⟩
        · cases hr2 : gokB ls (K + 1) N ad own span
          · exact ⟨n, K + 1, 0, 10, Or.inl rfl, fun W a c e1 hg => (iGr_no a n c (K + 1) N ls ad own span W hn e1 hl 10 (fun W' a c e => ptg_form a n c (K + 1) N ls ad own span W' hn e hl hst hos hr2) hg).mono fun e w' ⟨a', c', h1, _, h3⟩ => ⟨a', c', h1, h3⟩⟩
          · obtain ⟨I2, _, _, _, hG2, _⟩ := grant_yes n N ls ad own span hn hl hst hos (K + 1) hr2 hx hn80
            exact ⟨n + 1, K + 1 + 1, K + 1 + 1, 0, Or.inr ⟨rfl, by omega⟩, fun W a c e1 _ => (hG2 W a c e1).mono fun e w' ⟨a', c', h1, _, h3⟩ => ⟨a', c', h1, h3⟩⟩

end Go.Proofs.YtddnofonodgneaaGreatDoor
namespace Go.Proofs.YtddnofonodgneaaGreatDoor
open Go.RowKit

theorem box8 (w : World) (t : TypeId) (v0 v1 v2 v3 v4 v5 v6 v7 : Value) : (w.alloc (.cells #[v0, v1, v2, v3, v4, v5, v6, v7] t)).cell? ⟨w.heap.size, 0, none⟩ = some v0 ∧ (w.alloc (.cells #[v0, v1, v2, v3, v4, v5, v6, v7] t)).cell? ⟨w.heap.size, 1, none⟩ = some v1 ∧ (w.alloc (.cells #[v0, v1, v2, v3, v4, v5, v6, v7] t)).cell? ⟨w.heap.size, 2, none⟩ = some v2 ∧ (w.alloc (.cells #[v0, v1, v2, v3, v4, v5, v6, v7] t)).cell? ⟨w.heap.size, 3, none⟩ = some v3 ∧ (w.alloc (.cells #[v0, v1, v2, v3, v4, v5, v6, v7] t)).cell? ⟨w.heap.size, 4, none⟩ = some v4 ∧ (w.alloc (.cells #[v0, v1, v2, v3, v4, v5, v6, v7] t)).cell? ⟨w.heap.size, 5, none⟩ = some v5 ∧ (w.alloc (.cells #[v0, v1, v2, v3, v4, v5, v6, v7] t)).cell? ⟨w.heap.size, 6, none⟩ = some v6 ∧ (w.alloc (.cells #[v0, v1, v2, v3, v4, v5, v6, v7] t)).cell? ⟨w.heap.size, 7, none⟩ = some v7 := by
  refine ⟨?_, ?_, ?_, ?_, ?_, ?_, ?_, ?_⟩ <;> simp [go_sem]
theorem eqAd9 (a : Bool) (b c : Int) (w : World) : (Op.equalIn 9999 28 (.agg #[.bool a, .int .i64 b, .int .i64 c]) (.agg #[.bool a, .int .i64 b, .int .i64 c])).run Tryz.prog w = .ok true w := by
  have u3 := Tryz.underlying3
  have a3 := Tryz.isAgg3
  have z3 := Tryz.sizeOf3
  have u4 := Tryz.underlying4
  have a4 := Tryz.isAgg4
  have z4 := Tryz.sizeOf4
  have hS : Tryz.prog.underlying 28 = some (.struct (Tryz.prog.fieldsOf 28)) := by kernel_rfl
  have hp : Tryz.prog.stoodInHeld 28 = false := by kernel_rfl
  rw [show (9999 : Nat) = 9998 + 1 from rfl, run_equalIn_agg w 9998 28 _ _ hS hp]
  simp only [Program.fieldsOf, Tryz.underlying28]
  go_simp
theorem eqLs (q : Ls) (w : World) : (Op.equalIn 10000 35 (.agg #[.bool q.a.s, .int .i64 q.a.H.toInt, .int .i64 q.a.L.toInt, .string q.t, .int .i64 q.k, .int .i64 q.u]) (.agg #[.bool q.a.s, .int .i64 q.a.H.toInt, .int .i64 q.a.L.toInt, .string q.t, .int .i64 q.k, .int .i64 q.u])).run Tryz.prog w = .ok true w := by
  have u3 := Tryz.underlying3
  have a3 := Tryz.isAgg3
  have z3 := Tryz.sizeOf3
  have u4 := Tryz.underlying28
  have a4 := Tryz.isAgg28
  have z4 := Tryz.sizeOf28
  have u5 := Tryz.underlying9
  have a5 := Tryz.isAgg9
  have z5 := Tryz.sizeOf9
  have hS : Tryz.prog.underlying 35 = some (.struct (Tryz.prog.fieldsOf 35)) := by kernel_rfl
  have hp : Tryz.prog.stoodInHeld 35 = false := by kernel_rfl
  have h9 := eqAd9 q.a.s q.a.H.toInt q.a.L.toInt
  rw [show (10000 : Nat) = 9999 + 1 from rfl, run_equalIn_agg w 9999 35 _ _ hS hp]
  simp only [Program.fieldsOf, Tryz.underlying35]
  go_simp
set_option maxRecDepth 10000 in
set_option maxHeartbeats 4000000 in
theorem sameSt_any (b d : Option Addr) (n cb cd : Nat) (K N : Int) (ls : List Ls) (w : World) (hn : n = ls.length) (h1 : RowG KLs w b ls) (h2 : RowG KLs w d ls) (hl : n ≤ 1048576) :
    Calls Tryz.prog 34 #[.agg #[.slice none 0 0, .slice none 0 0, .slice b n cb, .int .i64 K, .int .i64 N, .slice none 0 0, .int .i64 0, .int .i64 0], .agg #[.slice none 0 0, .slice none 0 0, .slice d n cd, .int .i64 K, .int .i64 N, .slice none 0 0, .int .i64 0, .int .i64 0]] w fun e w' => e = .returned (.bool true) ∧ Below w.heap.size w w' := by
  have HB := hidP (fun W h => h1.later (w' := W) h)
  have HD := hidP (fun W h => h2.later (w' := W) h)
  have HN := hidP hn
  clear h1 h2 hn
  go_enter Tryz.func34, Tryz.ntmps34
  go_wp2_with fail
  obtain ⟨x0, x1, x2, x3, x4, x5, x6, x7⟩ := box8 w 77 (.slice none 0 0) (.slice none 0 0) (.slice b n cb) (.int .i64 K) (.int .i64 N) (.slice none 0 0) (.int .i64 0) (.int .i64 0)
  have xB := alloc_below w (.cells #[.slice none 0 0, .slice none 0 0, .slice b n cb, .int .i64 K, .int .i64 N, .slice none 0 0, .int .i64 0, .int .i64 0] 77)
  have xL := alloc_lt w (.cells #[.slice none 0 0, .slice none 0 0, .slice b n cb, .int .i64 K, .int .i64 N, .slice none 0 0, .int .i64 0, .int .i64 0] 77)
  have xS : (w.alloc (.cells #[.slice none 0 0, .slice none 0 0, .slice b n cb, .int .i64 K, .int .i64 N, .slice none 0 0, .int .i64 0, .int .i64 0] 77)).heap.size = w.heap.size + 1 := by simp
  generalize w.alloc (.cells #[.slice none 0 0, .slice none 0 0, .slice b n cb, .int .i64 K, .int .i64 N, .slice none 0 0, .int .i64 0, .int .i64 0] 77) = W1 at *
  obtain ⟨y0, y1, y2, y3, y4, y5, y6, y7⟩ := box8 W1 77 (.slice none 0 0) (.slice none 0 0) (.slice d n cd) (.int .i64 K) (.int .i64 N) (.slice none 0 0) (.int .i64 0) (.int .i64 0)
  have yB := alloc_below W1 (.cells #[.slice none 0 0, .slice none 0 0, .slice d n cd, .int .i64 K, .int .i64 N, .slice none 0 0, .int .i64 0, .int .i64 0] 77)
  have yL := alloc_lt W1 (.cells #[.slice none 0 0, .slice none 0 0, .slice d n cd, .int .i64 K, .int .i64 N, .slice none 0 0, .int .i64 0, .int .i64 0] 77)
  have yS : (W1.alloc (.cells #[.slice none 0 0, .slice none 0 0, .slice d n cd, .int .i64 K, .int .i64 N, .slice none 0 0, .int .i64 0, .int .i64 0] 77)).heap.size = W1.heap.size + 1 := by simp
  generalize W1.alloc (.cells #[.slice none 0 0, .slice none 0 0, .slice d n cd, .int .i64 K, .int .i64 N, .slice none 0 0, .int .i64 0, .int .i64 0] 77) = W2 at *
  rw [xS] at y0 y1 y2 y3 y4 y5 y6 y7 yL yS
  have hL0 : w.heap.size < W2.heap.size := by omega
  have X0 := (yB.cell xL).trans x0
  have X1 := (yB.cell xL).trans x1
  have X2 := (yB.cell xL).trans x2
  have X3 := (yB.cell xL).trans x3
  have X4 := (yB.cell xL).trans x4
  have X5 := (yB.cell xL).trans x5
  have X6 := (yB.cell xL).trans x6
  have X7 := (yB.cell xL).trans x7
  have HU := hidP (xB.trans (yB.mono xB.size))
  have HR := hidP (HB.out _ HU.out)
  have HQ := hidP (HD.out _ HU.out)
  clear xB yB xS yS x0 x1 x2 x3 x4 x5 x6 x7 HB HD xL
  go_loopw [5] (fun t5 wr => t5 = .int .i64 0 ∧ W2 = wr) (fun _ _ => 0)
  case atStart => exact ⟨rfl, rfl⟩
  case round =>
    obtain ⟨rfl, rfl⟩ := hrel
    go_wp2_with fail
    go_loopw [6] (fun t6 wr => t6 = .int .i64 0 ∧ W2 = wr) (fun _ _ => 0)
    case atStart => exact ⟨rfl, rfl⟩
    case round =>
      obtain ⟨rfl, rfl⟩ := hrel
      go_wp2_with fail
      go_loopw [7] (fun t7 wr => ∃ k : Nat, k ≤ n ∧ t7 = .int .i64 k ∧ Below W2.heap.size W2 wr) (fun t7 _ => n - (intOf t7).toNat)
      case atStart => exact ⟨0, Nat.zero_le _, rfl, Below.refl _ _⟩
      case round =>
        obtain ⟨k, hk, rfl, hbel⟩ := hrel
        have HBel := hidP hbel
        have XL : w.heap.size < wr.heap.size := Nat.lt_of_lt_of_le hL0 hbel.size
        have YL : w.heap.size + 1 < wr.heap.size := Nat.lt_of_lt_of_le yL hbel.size
        have z0 := (hbel.cell hL0).trans X0
        have s0 := (hbel.cell yL).trans y0
        have z1 := (hbel.cell hL0).trans X1
        have s1 := (hbel.cell yL).trans y1
        have z2 := (hbel.cell hL0).trans X2
        have s2 := (hbel.cell yL).trans y2
        have z3 := (hbel.cell hL0).trans X3
        have s3 := (hbel.cell yL).trans y3
        have z4 := (hbel.cell hL0).trans X4
        have s4 := (hbel.cell yL).trans y4
        have z5 := (hbel.cell hL0).trans X5
        have s5 := (hbel.cell yL).trans y5
        have z6 := (hbel.cell hL0).trans X6
        have s6 := (hbel.cell yL).trans y6
        have z7 := (hbel.cell hL0).trans X7
        have s7 := (hbel.cell yL).trans y7
        clear X0 y0 X1 y1 X2 y2 X3 y3 X4 y4 X5 y5 X6 y6 X7 y7
        by_cases hlt : k < n
        · obtain ⟨p, o, q, rfl, hp, hq, c0, c1, c2, c3, c4, c5⟩ := rowLs HR.out k (by have := HN.out; omega)
          obtain ⟨p', o', q', rfl, hp', hq', e0, e1, e2, e3, e4, e5⟩ := rowLs HQ.out k (by have := HN.out; omega)
          rw [hq] at hq'
          cases hq'
          have d0 := (hbel.cell hp).trans c0
          have g0 := (hbel.cell hp').trans e0
          have d1 := (hbel.cell hp).trans c1
          have g1 := (hbel.cell hp').trans e1
          have d2 := (hbel.cell hp).trans c2
          have g2 := (hbel.cell hp').trans e2
          have d3 := (hbel.cell hp).trans c3
          have g3 := (hbel.cell hp').trans e3
          have d4 := (hbel.cell hp).trans c4
          have g4 := (hbel.cell hp').trans e4
          have d5 := (hbel.cell hp).trans c5
          have g5 := (hbel.cell hp').trans e5
          have hpw : p < wr.heap.size := Nat.lt_of_lt_of_le hp hbel.size
          have hpw' : p' < wr.heap.size := Nat.lt_of_lt_of_le hp' hbel.size
          have k0 : (0 : Int) ≤ (k : Int) := by omega
          have k1 : (k : Int) < (n : Int) := by omega
          have hE := fun wx => eqLs q wx
          clear c0 c1 c2 c3 c4 c5 e0 e1 e2 e3 e4 e5 hq hbel
          go_wp2_with fail
          have HSx : Hid (∀ x, Below wr.heap.size wr x → (x.cell? ⟨w.heap.size, 2, none⟩ = some (.slice (some ⟨p, o, none⟩) n cb) ∧ x.cell? ⟨w.heap.size + 1, 2, none⟩ = some (.slice (some ⟨p', o', none⟩) n cd) ∧ x.cell? ⟨p, o + k * 6, none⟩ = some (.bool q.a.s) ∧ x.cell? ⟨p, o + k * 6 + 1, none⟩ = some (.int .i64 q.a.H.toInt) ∧ x.cell? ⟨p, o + k * 6 + 2, none⟩ = some (.int .i64 q.a.L.toInt) ∧ x.cell? ⟨p, o + k * 6 + 3, none⟩ = some (.string q.t) ∧ x.cell? ⟨p, o + k * 6 + 4, none⟩ = some (.int .i64 q.k) ∧ x.cell? ⟨p, o + k * 6 + 5, none⟩ = some (.int .i64 q.u) ∧ x.cell? ⟨p', o' + k * 6, none⟩ = some (.bool q.a.s) ∧ x.cell? ⟨p', o' + k * 6 + 1, none⟩ = some (.int .i64 q.a.H.toInt) ∧ x.cell? ⟨p', o' + k * 6 + 2, none⟩ = some (.int .i64 q.a.L.toInt) ∧ x.cell? ⟨p', o' + k * 6 + 3, none⟩ = some (.string q.t) ∧ x.cell? ⟨p', o' + k * 6 + 4, none⟩ = some (.int .i64 q.k) ∧ x.cell? ⟨p', o' + k * 6 + 5, none⟩ = some (.int .i64 q.u) ∧ Below wr.heap.size wr x)) := hidP fun x h =>
            ⟨(h.cell XL).trans z2, (h.cell YL).trans s2, (h.cell hpw).trans d0, (h.cell hpw).trans d1, (h.cell hpw).trans d2, (h.cell hpw).trans d3, (h.cell hpw).trans d4, (h.cell hpw).trans d5, (h.cell hpw').trans g0, (h.cell hpw').trans g1, (h.cell hpw').trans g2, (h.cell hpw').trans g3, (h.cell hpw').trans g4, (h.cell hpw').trans g5, h⟩
          refine wp_region_held_drew (S := (fun x => x.cell? ⟨w.heap.size, 2, none⟩ = some (.slice (some ⟨p, o, none⟩) n cb) ∧ x.cell? ⟨w.heap.size + 1, 2, none⟩ = some (.slice (some ⟨p', o', none⟩) n cd) ∧ x.cell? ⟨p, o + k * 6, none⟩ = some (.bool q.a.s) ∧ x.cell? ⟨p, o + k * 6 + 1, none⟩ = some (.int .i64 q.a.H.toInt) ∧ x.cell? ⟨p, o + k * 6 + 2, none⟩ = some (.int .i64 q.a.L.toInt) ∧ x.cell? ⟨p, o + k * 6 + 3, none⟩ = some (.string q.t) ∧ x.cell? ⟨p, o + k * 6 + 4, none⟩ = some (.int .i64 q.k) ∧ x.cell? ⟨p, o + k * 6 + 5, none⟩ = some (.int .i64 q.u) ∧ x.cell? ⟨p', o' + k * 6, none⟩ = some (.bool q.a.s) ∧ x.cell? ⟨p', o' + k * 6 + 1, none⟩ = some (.int .i64 q.a.H.toInt) ∧ x.cell? ⟨p', o' + k * 6 + 2, none⟩ = some (.int .i64 q.a.L.toInt) ∧ x.cell? ⟨p', o' + k * 6 + 3, none⟩ = some (.string q.t) ∧ x.cell? ⟨p', o' + k * 6 + 4, none⟩ = some (.int .i64 q.k) ∧ x.cell? ⟨p', o' + k * 6 + 5, none⟩ = some (.int .i64 q.u) ∧ Below wr.heap.size wr x)) (by kernel_rfl) ?_ (fun hHeld => ?_)
          · try dsimp only
            exact HSx.out _ ((Below.refl _ _).drew)
          refine tkA 0 101 (v := ?_) rfl (by kernel_rfl) (fun _ _ _ h => h) (by rfl) ?_ (by assumption) ?_; rotate_left; · (intro w hSw; (try dsimp only at hSw); go_simp; try with_reducible rfl)
          simp only [Act.put, List.setIfInBounds_toArray, List.set_cons_zero, List.set_cons_succ]
          refine tkA 1 102 (v := ?_) rfl (by kernel_rfl) (fun _ _ _ h => h) (by rfl) ?_ (by assumption) ?_; rotate_left; · (intro w hSw; (try dsimp only at hSw); go_simp; try with_reducible rfl)
          simp only [Act.put, List.setIfInBounds_toArray, List.set_cons_zero, List.set_cons_succ]
          refine tkA 2 103 (v := ?_) rfl (by kernel_rfl) (fun _ _ _ h => h) (by rfl) ?_ (by assumption) ?_; rotate_left; · (intro w hSw; (try dsimp only at hSw); go_simp; try with_reducible rfl)
          simp only [Act.put, List.setIfInBounds_toArray, List.set_cons_zero, List.set_cons_succ]
          refine tkA 3 104 (v := ?_) rfl (by kernel_rfl) (fun _ _ _ h => h) (by rfl) ?_ (by assumption) ?_; rotate_left; · (intro w hSw; (try dsimp only at hSw); go_simp; try with_reducible rfl)
          simp only [Act.put, List.setIfInBounds_toArray, List.set_cons_zero, List.set_cons_succ]
          refine tkA 4 105 (v := ?_) rfl (by kernel_rfl) (fun _ _ _ h => h) (by rfl) ?_ (by assumption) ?_; rotate_left; · (intro w hSw; (try dsimp only at hSw); go_simp; try with_reducible rfl)
          simp only [Act.put, List.setIfInBounds_toArray, List.set_cons_zero, List.set_cons_succ]
          refine tkA 5 106 (v := ?_) rfl (by kernel_rfl) (fun _ _ _ h => h) (by rfl) ?_ (by assumption) ?_; rotate_left; · (intro w hSw; (try dsimp only at hSw); go_simp; try with_reducible rfl)
          simp only [Act.put, List.setIfInBounds_toArray, List.set_cons_zero, List.set_cons_succ]
          refine tkA 6 107 (v := ?_) rfl (by kernel_rfl) (fun _ _ _ h => h) (by rfl) ?_ (by assumption) ?_; rotate_left; · (intro w hSw; (try dsimp only at hSw); go_simp; try with_reducible rfl)
          simp only [Act.put, List.setIfInBounds_toArray, List.set_cons_zero, List.set_cons_succ]
          refine tkA 7 108 (v := ?_) rfl (by kernel_rfl) (fun _ _ _ h => h) (by rfl) ?_ (by assumption) ?_; rotate_left; · (intro w hSw; (try dsimp only at hSw); go_simp; try with_reducible rfl)
          simp only [Act.put, List.setIfInBounds_toArray, List.set_cons_zero, List.set_cons_succ]
          refine tkA 8 109 (v := ?_) rfl (by kernel_rfl) (fun _ _ _ h => h) (by rfl) ?_ (by assumption) ?_; rotate_left; · (intro w hSw; (try dsimp only at hSw); go_simp; try with_reducible rfl)
          simp only [Act.put, List.setIfInBounds_toArray, List.set_cons_zero, List.set_cons_succ]
          refine tkA 9 110 (v := ?_) rfl (by kernel_rfl) (fun _ _ _ h => h) (by rfl) ?_ (by assumption) ?_; rotate_left; · (intro w hSw; (try dsimp only at hSw); go_simp; try with_reducible rfl)
          simp only [Act.put, List.setIfInBounds_toArray, List.set_cons_zero, List.set_cons_succ]
          refine tkA 10 111 (v := ?_) rfl (by kernel_rfl) (fun _ _ _ h => h) (by rfl) ?_ (by assumption) ?_; rotate_left; · (intro w hSw; (try dsimp only at hSw); go_simp; try with_reducible rfl)
          simp only [Act.put, List.setIfInBounds_toArray, List.set_cons_zero, List.set_cons_succ]
          refine tkA 11 112 (v := ?_) rfl (by kernel_rfl) (fun _ _ _ h => h) (by rfl) ?_ (by assumption) ?_; rotate_left; · (intro w hSw; (try dsimp only at hSw); go_simp; try with_reducible rfl)
          simp only [Act.put, List.setIfInBounds_toArray, List.set_cons_zero, List.set_cons_succ]
          refine tkA 12 113 (v := ?_) rfl (by kernel_rfl) (fun _ _ _ h => h) (by rfl) ?_ (by assumption) ?_; rotate_left; · (intro w hSw; (try dsimp only at hSw); go_simp; try with_reducible rfl)
          simp only [Act.put, List.setIfInBounds_toArray, List.set_cons_zero, List.set_cons_succ]
          have HE := hidP (hHeld.2.2.2.2.2.2.2.2.2.2.2.2.2.2)
          refine wpAnyH_done (by kernel_rfl) ?_ _
          clear hHeld
          go_wp2_with fail
          go_roundw
          case rel => exact ⟨k + 1, by omega, by go_num, HBel.out.trans (HE.out.mono HBel.out.size)⟩
          case measure => simp [intOf]; omega
        · have gk : decide ((k : Int) < (n : Int)) = false := decide_eq_false (by omega)
          clear hbel
          go_wp2_with fail
          go_loopw [8] (fun t8 wx => t8 = .int .i64 0 ∧ wr = wx) (fun _ _ => 0)
          case atStart => exact ⟨rfl, rfl⟩
          case round =>
            obtain ⟨rfl, rfl⟩ := hrel
            go_wp2_with fail
            go_ret
            exact ⟨rfl, HU.out.trans (HBel.out.mono HU.out.size)⟩

set_option maxRecDepth 10000 in
theorem sameBook_any (b d : Option Addr) (n cb cd : Nat) (K N : Int) (ls : List Ls) (w : World) (hn : n = ls.length) (h1 : RowG KLs w b ls) (h2 : RowG KLs w d ls) (hl : n ≤ 1048576) :
    Calls Tryz.prog 9 #[.agg #[.slice b n cb, .int .i64 K, .int .i64 N], .agg #[.slice d n cd, .int .i64 K, .int .i64 N]] w fun e w' => e = .returned (.bool true) ∧ Below w.heap.size w w' := by
  have HS := hidP (fun W h => sameSt_any b d n cb cd K N ls W hn (h1.later (w' := W) h) (h2.later (w' := W) h) hl)
  clear h1 h2 hn
  go_enter Tryz.func9, Tryz.ntmps9
  go_wp2_with fail
  refine (HS.out _ ((alloc_below w _).alloc (by simp) _)).mono ?_
  rintro e w2 ⟨rfl, hb2⟩
  have HB := hidP (((alloc_below w _).alloc (by simp) _).trans (hb2.mono (by simp; omega)))
  clear hb2
  go_wp2_with fail
  go_ret
  exact ⟨rfl, HB.out⟩

end Go.Proofs.YtddnofonodgneaaGreatDoor
namespace Go.Proofs.YtddnofonodgneaaGreatDoor
open Go.RowKit

theorem bigF (a : Option Addr) (len cap : Nat) (w : World) :
    Calls Tryz.prog 5 #[.slice a len cap] w fun e w' => e = .returned (.bool (decide ((1048576 : Int) < (len : Int)))) ∧ w' = w := by
  cases d : decide ((1048576 : Int) < (len : Int))
  all_goals
    go_enter Tryz.func5, Tryz.ntmps5
    go_wp2
    go_ret
    exact ⟨rfl, rfl⟩

set_option maxRecDepth 10000 in
set_option maxHeartbeats 8000000 in
theorem lawGranted_of (a : Option Addr) (len cap : Nat) (w : World) (hl : len ≤ 1048576) (hg : GlobE w) (hDr : Calls Tryz.prog 6 #[.slice a len cap] w fun e w' => ∃ (b : Option Addr) (n d : Nat) (K N : Int) (ls : List Ls) (ad : Ad) (ow : ByteArray) (sp : Int), e = .returned (.tuple #[.agg #[.slice b n d, .int .i64 K, .int .i64 N], .agg #[.bool ad.s, .int .i64 ad.H.toInt, .int .i64 ad.L.toInt], .string ow, .int .i64 sp]) ∧ n = ls.length ∧ n ≤ 81 ∧ (∀ q ∈ ls, q.t.size ≤ 100) ∧ ow.size ≤ 100 ∧ OwnG KLs 35 w' w.heap.size (.slice b n d) ls ∧ Below w.heap.size w w') :
    Calls Tryz.prog 3 #[.slice a len cap] w fun e w' => e = .returned (.bool true) ∧ Below w.heap.size w w' := by
  have HG := hidP (bigF a len cap)
  have hbig : decide ((1048576 : Int) < (len : Int)) = false := decide_eq_false (by omega)
  rw [hbig] at HG
  have HGl := hidP hg
  have HDr := hidP hDr
  clear hg hDr hbig
  go_enter Tryz.func3, Tryz.ntmps3
  go_wp2_with fail
  refine (HG.out _).mono ?_
  rintro e w0 ⟨rfl, hw0⟩
  rw [hw0]
  clear hw0 w0
  go_wp2_with fail
  refine (HDr.out).mono ?_
  rintro e w1 ⟨b, n, d, K, N, ls, ad, ow, sp, rfl, hn, h81, hs, how, hoD, hb1⟩
  have OD := hidP hoD
  have HN := hidP hn
  have hs9 : ∀ q ∈ ls, q.t.size ≤ 9223372036854775807 := fun q hq => by have := hs q hq; omega
  have hos : ow.size ≤ 9223372036854775807 := by omega
  have HCp := hidP (OwnG.caps hoD).2.2.2
  have hSp := grant_split n K N ls ad ow sp hn (by omega) hs9 hos
  have HSm := hidP (fun W a c a' c' e1 e2 => sameBook_any a a' n c c' K N ls W hn e1 e2 (by omega))
  clear hoD hn hs hs9 how hos
  have acc_w1 := hidP (hb1)
  have sz_w1 : Hid (w.heap.size ≤ w1.heap.size) := hidP hb1.size
  clear hb1 
  have oD_w1 := hidP (OD.out)
  have lhD : Hid (∀ k, (Value.slice b n d).ownBlock = some k → w.heap.size ≤ k ∧ k < w1.heap.size) := hidP (fun k hk => OwnG.lt oD_w1.out k hk)
  clear OD HG HDr
  go_wp2_with fail
  obtain ⟨bd0_W2, bd1_W2, bd2_W2⟩ := box3B w1 26 (.slice b n d) (.int .i64 K) (.int .i64 N)
  have bdF_W2 : ∀ o, (w1.alloc (.cells #[.slice b n d, .int .i64 K, .int .i64 N] 26)).frozen? ⟨w1.heap.size, o, none⟩ = false := fun o => by simp [go_sem]
  have bdL_W2 : w1.heap.size < (w1.alloc (.cells #[.slice b n d, .int .i64 K, .int .i64 N] 26)).heap.size := by simp
  have ab_W2 := alloc_below w1 (.cells #[.slice b n d, .int .i64 K, .int .i64 N] 26)
  have as_W2 : Hid ((w1.alloc (.cells #[.slice b n d, .int .i64 K, .int .i64 N] 26)).heap.size = w1.heap.size + 1) := hidP (by simp)
  generalize w1.alloc (.cells #[.slice b n d, .int .i64 K, .int .i64 N] 26) = W2 at *
  have oD_W2 := hidP (OwnG.later oD_w1.out ab_W2)
  have acc_W2 := hidP (acc_w1.out.trans (ab_W2.mono acc_w1.out.size))
  have sz_W2 : Hid (w1.heap.size ≤ W2.heap.size) := hidP ab_W2.size
  clear ab_W2 oD_w1 acc_w1
  obtain ⟨ba0_W3, ba1_W3, ba2_W3⟩ := box3B W2 28 (.bool ad.s) (.int .i64 ad.H.toInt) (.int .i64 ad.L.toInt)
  have baF_W3 : ∀ o, (W2.alloc (.cells #[.bool ad.s, .int .i64 ad.H.toInt, .int .i64 ad.L.toInt] 28)).frozen? ⟨W2.heap.size, o, none⟩ = false := fun o => by simp [go_sem]
  have baL_W3 : W2.heap.size < (W2.alloc (.cells #[.bool ad.s, .int .i64 ad.H.toInt, .int .i64 ad.L.toInt] 28)).heap.size := by simp
  have ab_W3 := alloc_below W2 (.cells #[.bool ad.s, .int .i64 ad.H.toInt, .int .i64 ad.L.toInt] 28)
  have as_W3 : Hid ((W2.alloc (.cells #[.bool ad.s, .int .i64 ad.H.toInt, .int .i64 ad.L.toInt] 28)).heap.size = W2.heap.size + 1) := hidP (by simp)
  generalize W2.alloc (.cells #[.bool ad.s, .int .i64 ad.H.toInt, .int .i64 ad.L.toInt] 28) = W3 at *
  have bd0_W3 := (ab_W3.cell bdL_W2).trans bd0_W2
  have bd1_W3 := (ab_W3.cell bdL_W2).trans bd1_W2
  have bd2_W3 := (ab_W3.cell bdL_W2).trans bd2_W2
  have bdF_W3 : ∀ o, W3.frozen? ⟨w1.heap.size, o, none⟩ = false := fun o => (ab_W3.frozen bdL_W2).trans (bdF_W2 o)
  have bdL_W3 : w1.heap.size < W3.heap.size := Nat.lt_of_lt_of_le bdL_W2 ab_W3.size
  have oD_W3 := hidP (OwnG.later oD_W2.out ab_W3)
  have acc_W3 := hidP (acc_W2.out.trans (ab_W3.mono acc_W2.out.size))
  have sz_W3 : Hid (W2.heap.size ≤ W3.heap.size) := hidP ab_W3.size
  clear ab_W3 bd0_W2 bd1_W2 bd2_W2 bdF_W2 bdL_W2 oD_W2 acc_W2
  rw [as_W2.out] at ba0_W3 ba1_W3 ba2_W3 baL_W3
  have baF_W3' : ∀ o, W3.frozen? ⟨w1.heap.size + 1, o, none⟩ = false := fun o => by have := baF_W3 o; rw [as_W2.out] at this; exact this
  clear baF_W3
  have baF_W3 := baF_W3'
  clear baF_W3'
  rcases hSp with ⟨C, hC, hG, hS⟩ | ⟨I, hK0, hK9, hn8, htk, hlen, hst1, hb1, hG, hS, hH, hRn, hRl, hRy, ⟨S2, hH2⟩, ⟨n3, T3, A, C, hAC, hG2⟩⟩
  · have HGr := hidP hG
    have HSr := hidP hS
    clear hG hS
    have hC0 : (C == 0) = false := by rw [← Bool.not_eq_true]; intro h; simp [bne, h] at hC
    refine (HGr.out _ b d oD_W3.out.row (HGl.out.later acc_W3.out)).mono ?_
    rintro e w4 ⟨A4, C4, rfl, oR, hb4⟩
    have OR := hidP oR
    clear oR
    have bd0_w4 := (hb4.cell bdL_W3).trans bd0_W3
    have bd1_w4 := (hb4.cell bdL_W3).trans bd1_W3
    have bd2_w4 := (hb4.cell bdL_W3).trans bd2_W3
    have bdF_w4 : ∀ o, w4.frozen? ⟨w1.heap.size, o, none⟩ = false := fun o => (hb4.frozen bdL_W3).trans (bdF_W3 o)
    have bdL_w4 : w1.heap.size < w4.heap.size := Nat.lt_of_lt_of_le bdL_W3 hb4.size
    have ba0_w4 := (hb4.cell baL_W3).trans ba0_W3
    have ba1_w4 := (hb4.cell baL_W3).trans ba1_W3
    have ba2_w4 := (hb4.cell baL_W3).trans ba2_W3
    have baF_w4 : ∀ o, w4.frozen? ⟨w1.heap.size + 1, o, none⟩ = false := fun o => (hb4.frozen baL_W3).trans (baF_W3 o)
    have baL_w4 : w1.heap.size + 1 < w4.heap.size := Nat.lt_of_lt_of_le baL_W3 hb4.size
    have oD_w4 := hidP (OwnG.later oD_W3.out hb4)
    have acc_w4 := hidP (acc_W3.out.trans (hb4.mono acc_W3.out.size))
    have sz_w4 : Hid (W3.heap.size ≤ w4.heap.size) := hidP hb4.size
    clear hb4 bd0_W3 bd1_W3 bd2_W3 bdF_W3 bdL_W3 ba0_W3 ba1_W3 ba2_W3 baF_W3 baL_W3 oD_W3 acc_W3
    have oR_w4 := hidP (OR.out)
    have lhR : Hid (∀ k, (Value.slice A4 n C4).ownBlock = some k → W3.heap.size ≤ k ∧ k < w4.heap.size) := hidP (fun k hk => OwnG.lt oR_w4.out k hk)
    clear OR
    go_wp2_with fail
    obtain ⟨bn0_W5, bn1_W5, bn2_W5⟩ := box3B w4 26 (.slice A4 n C4) (.int .i64 K) (.int .i64 N)
    have bnF_W5 : ∀ o, (w4.alloc (.cells #[.slice A4 n C4, .int .i64 K, .int .i64 N] 26)).frozen? ⟨w4.heap.size, o, none⟩ = false := fun o => by simp [go_sem]
    have bnL_W5 : w4.heap.size < (w4.alloc (.cells #[.slice A4 n C4, .int .i64 K, .int .i64 N] 26)).heap.size := by simp
    have ab_W5 := alloc_below w4 (.cells #[.slice A4 n C4, .int .i64 K, .int .i64 N] 26)
    have as_W5 : Hid ((w4.alloc (.cells #[.slice A4 n C4, .int .i64 K, .int .i64 N] 26)).heap.size = w4.heap.size + 1) := hidP (by simp)
    generalize w4.alloc (.cells #[.slice A4 n C4, .int .i64 K, .int .i64 N] 26) = W5 at *
    have bd0_W5 := (ab_W5.cell bdL_w4).trans bd0_w4
    have bd1_W5 := (ab_W5.cell bdL_w4).trans bd1_w4
    have bd2_W5 := (ab_W5.cell bdL_w4).trans bd2_w4
    have bdF_W5 : ∀ o, W5.frozen? ⟨w1.heap.size, o, none⟩ = false := fun o => (ab_W5.frozen bdL_w4).trans (bdF_w4 o)
    have bdL_W5 : w1.heap.size < W5.heap.size := Nat.lt_of_lt_of_le bdL_w4 ab_W5.size
    have ba0_W5 := (ab_W5.cell baL_w4).trans ba0_w4
    have ba1_W5 := (ab_W5.cell baL_w4).trans ba1_w4
    have ba2_W5 := (ab_W5.cell baL_w4).trans ba2_w4
    have baF_W5 : ∀ o, W5.frozen? ⟨w1.heap.size + 1, o, none⟩ = false := fun o => (ab_W5.frozen baL_w4).trans (baF_w4 o)
    have baL_W5 : w1.heap.size + 1 < W5.heap.size := Nat.lt_of_lt_of_le baL_w4 ab_W5.size
    have oD_W5 := hidP (OwnG.later oD_w4.out ab_W5)
    have oR_W5 := hidP (OwnG.later oR_w4.out ab_W5)
    have acc_W5 := hidP (acc_w4.out.trans (ab_W5.mono acc_w4.out.size))
    have sz_W5 : Hid (w4.heap.size ≤ W5.heap.size) := hidP ab_W5.size
    clear ab_W5 bd0_w4 bd1_w4 bd2_w4 bdF_w4 bdL_w4 ba0_w4 ba1_w4 ba2_w4 baF_w4 baL_w4 oD_w4 oR_w4 acc_w4
    refine (HSr.out _ b d oD_W5.out.row HCp.out).mono ?_
    rintro e w6 ⟨b1, m1, c1, k1, k2, rfl, hb6⟩
    have bd0_w6 := (hb6.cell bdL_W5).trans bd0_W5
    have bd1_w6 := (hb6.cell bdL_W5).trans bd1_W5
    have bd2_w6 := (hb6.cell bdL_W5).trans bd2_W5
    have bdF_w6 : ∀ o, w6.frozen? ⟨w1.heap.size, o, none⟩ = false := fun o => (hb6.frozen bdL_W5).trans (bdF_W5 o)
    have bdL_w6 : w1.heap.size < w6.heap.size := Nat.lt_of_lt_of_le bdL_W5 hb6.size
    have ba0_w6 := (hb6.cell baL_W5).trans ba0_W5
    have ba1_w6 := (hb6.cell baL_W5).trans ba1_W5
    have ba2_w6 := (hb6.cell baL_W5).trans ba2_W5
    have baF_w6 : ∀ o, w6.frozen? ⟨w1.heap.size + 1, o, none⟩ = false := fun o => (hb6.frozen baL_W5).trans (baF_W5 o)
    have baL_w6 : w1.heap.size + 1 < w6.heap.size := Nat.lt_of_lt_of_le baL_W5 hb6.size
    have bn0_w6 := (hb6.cell bnL_W5).trans bn0_W5
    have bn1_w6 := (hb6.cell bnL_W5).trans bn1_W5
    have bn2_w6 := (hb6.cell bnL_W5).trans bn2_W5
    have bnF_w6 : ∀ o, w6.frozen? ⟨w4.heap.size, o, none⟩ = false := fun o => (hb6.frozen bnL_W5).trans (bnF_W5 o)
    have bnL_w6 : w4.heap.size < w6.heap.size := Nat.lt_of_lt_of_le bnL_W5 hb6.size
    have oD_w6 := hidP (OwnG.later oD_W5.out hb6)
    have oR_w6 := hidP (OwnG.later oR_W5.out hb6)
    have acc_w6 := hidP (acc_W5.out.trans (hb6.mono acc_W5.out.size))
    have sz_w6 : Hid (W5.heap.size ≤ w6.heap.size) := hidP hb6.size
    clear hb6 bd0_W5 bd1_W5 bd2_W5 bdF_W5 bdL_W5 ba0_W5 ba1_W5 ba2_W5 baF_W5 baL_W5 bn0_W5 bn1_W5 bn2_W5 bnF_W5 bnL_W5 oD_W5 oR_W5 acc_W5
    go_wp2_with fail
    obtain ⟨bs0_W7, bs1_W7, bs2_W7⟩ := box3B w6 26 (.slice b1 m1 c1) (.int .i64 k1) (.int .i64 N)
    have bsF_W7 : ∀ o, (w6.alloc (.cells #[.slice b1 m1 c1, .int .i64 k1, .int .i64 N] 26)).frozen? ⟨w6.heap.size, o, none⟩ = false := fun o => by simp [go_sem]
    have bsL_W7 : w6.heap.size < (w6.alloc (.cells #[.slice b1 m1 c1, .int .i64 k1, .int .i64 N] 26)).heap.size := by simp
    have ab_W7 := alloc_below w6 (.cells #[.slice b1 m1 c1, .int .i64 k1, .int .i64 N] 26)
    have as_W7 : Hid ((w6.alloc (.cells #[.slice b1 m1 c1, .int .i64 k1, .int .i64 N] 26)).heap.size = w6.heap.size + 1) := hidP (by simp)
    generalize w6.alloc (.cells #[.slice b1 m1 c1, .int .i64 k1, .int .i64 N] 26) = W7 at *
    have bd0_W7 := (ab_W7.cell bdL_w6).trans bd0_w6
    have bd1_W7 := (ab_W7.cell bdL_w6).trans bd1_w6
    have bd2_W7 := (ab_W7.cell bdL_w6).trans bd2_w6
    have bdF_W7 : ∀ o, W7.frozen? ⟨w1.heap.size, o, none⟩ = false := fun o => (ab_W7.frozen bdL_w6).trans (bdF_w6 o)
    have bdL_W7 : w1.heap.size < W7.heap.size := Nat.lt_of_lt_of_le bdL_w6 ab_W7.size
    have ba0_W7 := (ab_W7.cell baL_w6).trans ba0_w6
    have ba1_W7 := (ab_W7.cell baL_w6).trans ba1_w6
    have ba2_W7 := (ab_W7.cell baL_w6).trans ba2_w6
    have baF_W7 : ∀ o, W7.frozen? ⟨w1.heap.size + 1, o, none⟩ = false := fun o => (ab_W7.frozen baL_w6).trans (baF_w6 o)
    have baL_W7 : w1.heap.size + 1 < W7.heap.size := Nat.lt_of_lt_of_le baL_w6 ab_W7.size
    have bn0_W7 := (ab_W7.cell bnL_w6).trans bn0_w6
    have bn1_W7 := (ab_W7.cell bnL_w6).trans bn1_w6
    have bn2_W7 := (ab_W7.cell bnL_w6).trans bn2_w6
    have bnF_W7 : ∀ o, W7.frozen? ⟨w4.heap.size, o, none⟩ = false := fun o => (ab_W7.frozen bnL_w6).trans (bnF_w6 o)
    have bnL_W7 : w4.heap.size < W7.heap.size := Nat.lt_of_lt_of_le bnL_w6 ab_W7.size
    have oD_W7 := hidP (OwnG.later oD_w6.out ab_W7)
    have oR_W7 := hidP (OwnG.later oR_w6.out ab_W7)
    have acc_W7 := hidP (acc_w6.out.trans (ab_W7.mono acc_w6.out.size))
    have sz_W7 : Hid (w6.heap.size ≤ W7.heap.size) := hidP ab_W7.size
    clear ab_W7 bd0_w6 bd1_w6 bd2_w6 bdF_w6 bdL_w6 ba0_w6 ba1_w6 ba2_w6 baF_w6 baL_w6 bn0_w6 bn1_w6 bn2_w6 bnF_w6 bnL_w6 oD_w6 oR_w6 acc_w6
    refine (HSm.out _ A4 C4 b d oR_W7.out.row oD_W7.out.row).mono ?_
    rintro e w8 ⟨rfl, hb8⟩
    have bd0_w8 := (hb8.cell bdL_W7).trans bd0_W7
    have bd1_w8 := (hb8.cell bdL_W7).trans bd1_W7
    have bd2_w8 := (hb8.cell bdL_W7).trans bd2_W7
    have bdF_w8 : ∀ o, w8.frozen? ⟨w1.heap.size, o, none⟩ = false := fun o => (hb8.frozen bdL_W7).trans (bdF_W7 o)
    have bdL_w8 : w1.heap.size < w8.heap.size := Nat.lt_of_lt_of_le bdL_W7 hb8.size
    have ba0_w8 := (hb8.cell baL_W7).trans ba0_W7
    have ba1_w8 := (hb8.cell baL_W7).trans ba1_W7
    have ba2_w8 := (hb8.cell baL_W7).trans ba2_W7
    have baF_w8 : ∀ o, w8.frozen? ⟨w1.heap.size + 1, o, none⟩ = false := fun o => (hb8.frozen baL_W7).trans (baF_W7 o)
    have baL_w8 : w1.heap.size + 1 < w8.heap.size := Nat.lt_of_lt_of_le baL_W7 hb8.size
    have bn0_w8 := (hb8.cell bnL_W7).trans bn0_W7
    have bn1_w8 := (hb8.cell bnL_W7).trans bn1_W7
    have bn2_w8 := (hb8.cell bnL_W7).trans bn2_W7
    have bnF_w8 : ∀ o, w8.frozen? ⟨w4.heap.size, o, none⟩ = false := fun o => (hb8.frozen bnL_W7).trans (bnF_W7 o)
    have bnL_w8 : w4.heap.size < w8.heap.size := Nat.lt_of_lt_of_le bnL_W7 hb8.size
    have bs0_w8 := (hb8.cell bsL_W7).trans bs0_W7
    have bs1_w8 := (hb8.cell bsL_W7).trans bs1_W7
    have bs2_w8 := (hb8.cell bsL_W7).trans bs2_W7
    have bsF_w8 : ∀ o, w8.frozen? ⟨w6.heap.size, o, none⟩ = false := fun o => (hb8.frozen bsL_W7).trans (bsF_W7 o)
    have bsL_w8 : w6.heap.size < w8.heap.size := Nat.lt_of_lt_of_le bsL_W7 hb8.size
    have oD_w8 := hidP (OwnG.later oD_W7.out hb8)
    have oR_w8 := hidP (OwnG.later oR_W7.out hb8)
    have acc_w8 := hidP (acc_W7.out.trans (hb8.mono acc_W7.out.size))
    have sz_w8 : Hid (W7.heap.size ≤ w8.heap.size) := hidP hb8.size
    clear hb8 bd0_W7 bd1_W7 bd2_W7 bdF_W7 bdL_W7 ba0_W7 ba1_W7 ba2_W7 baF_W7 baL_W7 bn0_W7 bn1_W7 bn2_W7 bnF_W7 bnL_W7 bs0_W7 bs1_W7 bs2_W7 bsF_W7 bsL_W7 oD_W7 oR_W7 acc_W7
    go_wp2_with fail
    go_ret
    exact ⟨rfl, acc_w8.out⟩
  · have HSm1 := hidP (fun W a c a' c' e1 e2 => sameBook_any a a' (n + 1) c c' (K + 1) N _ W hlen e1 e2 (by omega))
    have HIo := hidP (fun W a c e1 => iBookOk_any a (n + 1) c (K + 1) N _ W hlen e1 (by omega) hst1)
    rw [hb1] at HIo
    have CG := hidP hG
    have CS := hidP hS
    have CH := hidP hH
    have CRn := hidP hRn
    have CRl := hidP hRl
    have CRy := hidP hRy
    have CH2 := hidP hH2
    have CG2 := hidP hG2
    have Htk := hidP htk
    have wK : IntKind.i64.wrap (K + 1) = K + 1 := by rw [IntKind.wrap_i64]; omega
    have wK1 : IntKind.i64.wrap (K + 1 - 1) = K := by rw [IntKind.wrap_i64]; omega
    have wK2 : IntKind.i64.wrap (K + 1 + 1) = K + 2 := by rw [IntKind.wrap_i64]; omega
    clear hG hS hH hRn hRl hRy hH2 hG2 htk hlen hst1 hb1
    generalize putL ls I ⟨ad, ow, K + 1, N + sp⟩ = L1 at *
    refine (CG.out _ b d oD_W3.out.row (HGl.out.later acc_W3.out)).mono ?_
    rintro e w4 ⟨A4, C4, rfl, oR, hb4⟩
    have OR := hidP oR
    clear oR CG
    have bd0_w4 := (hb4.cell bdL_W3).trans bd0_W3
    have bd1_w4 := (hb4.cell bdL_W3).trans bd1_W3
    have bd2_w4 := (hb4.cell bdL_W3).trans bd2_W3
    have bdF_w4 : ∀ o, w4.frozen? ⟨w1.heap.size, o, none⟩ = false := fun o => (hb4.frozen bdL_W3).trans (bdF_W3 o)
    have bdL_w4 : w1.heap.size < w4.heap.size := Nat.lt_of_lt_of_le bdL_W3 hb4.size
    have ba0_w4 := (hb4.cell baL_W3).trans ba0_W3
    have ba1_w4 := (hb4.cell baL_W3).trans ba1_W3
    have ba2_w4 := (hb4.cell baL_W3).trans ba2_W3
    have baF_w4 : ∀ o, w4.frozen? ⟨w1.heap.size + 1, o, none⟩ = false := fun o => (hb4.frozen baL_W3).trans (baF_W3 o)
    have baL_w4 : w1.heap.size + 1 < w4.heap.size := Nat.lt_of_lt_of_le baL_W3 hb4.size
    have oD_w4 := hidP (OwnG.later oD_W3.out hb4)
    have acc_w4 := hidP (acc_W3.out.trans (hb4.mono acc_W3.out.size))
    have sz_w4 : Hid (W3.heap.size ≤ w4.heap.size) := hidP hb4.size
    clear hb4 bd0_W3 bd1_W3 bd2_W3 bdF_W3 bdL_W3 ba0_W3 ba1_W3 ba2_W3 baF_W3 baL_W3 oD_W3 acc_W3
    have oR_w4 := hidP (OR.out)
    have lhR : Hid (∀ k, (Value.slice A4 (n + 1) C4).ownBlock = some k → W3.heap.size ≤ k ∧ k < w4.heap.size) := hidP (fun k hk => OwnG.lt oR_w4.out k hk)
    clear OR
    go_wp2_with fail
    obtain ⟨bn0_W5, bn1_W5, bn2_W5⟩ := box3B w4 26 (.slice A4 (n + 1) C4) (.int .i64 (K + 1)) (.int .i64 N)
    have bnF_W5 : ∀ o, (w4.alloc (.cells #[.slice A4 (n + 1) C4, .int .i64 (K + 1), .int .i64 N] 26)).frozen? ⟨w4.heap.size, o, none⟩ = false := fun o => by simp [go_sem]
    have bnL_W5 : w4.heap.size < (w4.alloc (.cells #[.slice A4 (n + 1) C4, .int .i64 (K + 1), .int .i64 N] 26)).heap.size := by simp
    have ab_W5 := alloc_below w4 (.cells #[.slice A4 (n + 1) C4, .int .i64 (K + 1), .int .i64 N] 26)
    have as_W5 : Hid ((w4.alloc (.cells #[.slice A4 (n + 1) C4, .int .i64 (K + 1), .int .i64 N] 26)).heap.size = w4.heap.size + 1) := hidP (by simp)
    generalize w4.alloc (.cells #[.slice A4 (n + 1) C4, .int .i64 (K + 1), .int .i64 N] 26) = W5 at *
    have bd0_W5 := (ab_W5.cell bdL_w4).trans bd0_w4
    have bd1_W5 := (ab_W5.cell bdL_w4).trans bd1_w4
    have bd2_W5 := (ab_W5.cell bdL_w4).trans bd2_w4
    have bdF_W5 : ∀ o, W5.frozen? ⟨w1.heap.size, o, none⟩ = false := fun o => (ab_W5.frozen bdL_w4).trans (bdF_w4 o)
    have bdL_W5 : w1.heap.size < W5.heap.size := Nat.lt_of_lt_of_le bdL_w4 ab_W5.size
    have ba0_W5 := (ab_W5.cell baL_w4).trans ba0_w4
    have ba1_W5 := (ab_W5.cell baL_w4).trans ba1_w4
    have ba2_W5 := (ab_W5.cell baL_w4).trans ba2_w4
    have baF_W5 : ∀ o, W5.frozen? ⟨w1.heap.size + 1, o, none⟩ = false := fun o => (ab_W5.frozen baL_w4).trans (baF_w4 o)
    have baL_W5 : w1.heap.size + 1 < W5.heap.size := Nat.lt_of_lt_of_le baL_w4 ab_W5.size
    have oD_W5 := hidP (OwnG.later oD_w4.out ab_W5)
    have oR_W5 := hidP (OwnG.later oR_w4.out ab_W5)
    have acc_W5 := hidP (acc_w4.out.trans (ab_W5.mono acc_w4.out.size))
    have sz_W5 : Hid (w4.heap.size ≤ W5.heap.size) := hidP ab_W5.size
    clear ab_W5 bd0_w4 bd1_w4 bd2_w4 bdF_w4 bdL_w4 ba0_w4 ba1_w4 ba2_w4 baF_w4 baL_w4 oD_w4 oR_w4 acc_w4
    refine (CS.out _ b d oD_W5.out.row HCp.out).mono ?_
    rintro e w6 ⟨b1, m1, c1, k1, k2, rfl, hb6⟩
    clear CS
    have bd0_w6 := (hb6.cell bdL_W5).trans bd0_W5
    have bd1_w6 := (hb6.cell bdL_W5).trans bd1_W5
    have bd2_w6 := (hb6.cell bdL_W5).trans bd2_W5
    have bdF_w6 : ∀ o, w6.frozen? ⟨w1.heap.size, o, none⟩ = false := fun o => (hb6.frozen bdL_W5).trans (bdF_W5 o)
    have bdL_w6 : w1.heap.size < w6.heap.size := Nat.lt_of_lt_of_le bdL_W5 hb6.size
    have ba0_w6 := (hb6.cell baL_W5).trans ba0_W5
    have ba1_w6 := (hb6.cell baL_W5).trans ba1_W5
    have ba2_w6 := (hb6.cell baL_W5).trans ba2_W5
    have baF_w6 : ∀ o, w6.frozen? ⟨w1.heap.size + 1, o, none⟩ = false := fun o => (hb6.frozen baL_W5).trans (baF_W5 o)
    have baL_w6 : w1.heap.size + 1 < w6.heap.size := Nat.lt_of_lt_of_le baL_W5 hb6.size
    have bn0_w6 := (hb6.cell bnL_W5).trans bn0_W5
    have bn1_w6 := (hb6.cell bnL_W5).trans bn1_W5
    have bn2_w6 := (hb6.cell bnL_W5).trans bn2_W5
    have bnF_w6 : ∀ o, w6.frozen? ⟨w4.heap.size, o, none⟩ = false := fun o => (hb6.frozen bnL_W5).trans (bnF_W5 o)
    have bnL_w6 : w4.heap.size < w6.heap.size := Nat.lt_of_lt_of_le bnL_W5 hb6.size
    have oD_w6 := hidP (OwnG.later oD_W5.out hb6)
    have oR_w6 := hidP (OwnG.later oR_W5.out hb6)
    have acc_w6 := hidP (acc_W5.out.trans (hb6.mono acc_W5.out.size))
    have sz_w6 : Hid (W5.heap.size ≤ w6.heap.size) := hidP hb6.size
    clear hb6 bd0_W5 bd1_W5 bd2_W5 bdF_W5 bdL_W5 ba0_W5 ba1_W5 ba2_W5 baF_W5 baL_W5 bn0_W5 bn1_W5 bn2_W5 bnF_W5 bnL_W5 oD_W5 oR_W5 acc_W5
    go_wp2_with fail
    obtain ⟨bs0_W7, bs1_W7, bs2_W7⟩ := box3B w6 26 (.slice b1 m1 c1) (.int .i64 k1) (.int .i64 N)
    have bsF_W7 : ∀ o, (w6.alloc (.cells #[.slice b1 m1 c1, .int .i64 k1, .int .i64 N] 26)).frozen? ⟨w6.heap.size, o, none⟩ = false := fun o => by simp [go_sem]
    have bsL_W7 : w6.heap.size < (w6.alloc (.cells #[.slice b1 m1 c1, .int .i64 k1, .int .i64 N] 26)).heap.size := by simp
    have ab_W7 := alloc_below w6 (.cells #[.slice b1 m1 c1, .int .i64 k1, .int .i64 N] 26)
    have as_W7 : Hid ((w6.alloc (.cells #[.slice b1 m1 c1, .int .i64 k1, .int .i64 N] 26)).heap.size = w6.heap.size + 1) := hidP (by simp)
    generalize w6.alloc (.cells #[.slice b1 m1 c1, .int .i64 k1, .int .i64 N] 26) = W7 at *
    have bd0_W7 := (ab_W7.cell bdL_w6).trans bd0_w6
    have bd1_W7 := (ab_W7.cell bdL_w6).trans bd1_w6
    have bd2_W7 := (ab_W7.cell bdL_w6).trans bd2_w6
    have bdF_W7 : ∀ o, W7.frozen? ⟨w1.heap.size, o, none⟩ = false := fun o => (ab_W7.frozen bdL_w6).trans (bdF_w6 o)
    have bdL_W7 : w1.heap.size < W7.heap.size := Nat.lt_of_lt_of_le bdL_w6 ab_W7.size
    have ba0_W7 := (ab_W7.cell baL_w6).trans ba0_w6
    have ba1_W7 := (ab_W7.cell baL_w6).trans ba1_w6
    have ba2_W7 := (ab_W7.cell baL_w6).trans ba2_w6
    have baF_W7 : ∀ o, W7.frozen? ⟨w1.heap.size + 1, o, none⟩ = false := fun o => (ab_W7.frozen baL_w6).trans (baF_w6 o)
    have baL_W7 : w1.heap.size + 1 < W7.heap.size := Nat.lt_of_lt_of_le baL_w6 ab_W7.size
    have bn0_W7 := (ab_W7.cell bnL_w6).trans bn0_w6
    have bn1_W7 := (ab_W7.cell bnL_w6).trans bn1_w6
    have bn2_W7 := (ab_W7.cell bnL_w6).trans bn2_w6
    have bnF_W7 : ∀ o, W7.frozen? ⟨w4.heap.size, o, none⟩ = false := fun o => (ab_W7.frozen bnL_w6).trans (bnF_w6 o)
    have bnL_W7 : w4.heap.size < W7.heap.size := Nat.lt_of_lt_of_le bnL_w6 ab_W7.size
    have oD_W7 := hidP (OwnG.later oD_w6.out ab_W7)
    have oR_W7 := hidP (OwnG.later oR_w6.out ab_W7)
    have acc_W7 := hidP (acc_w6.out.trans (ab_W7.mono acc_w6.out.size))
    have sz_W7 : Hid (w6.heap.size ≤ W7.heap.size) := hidP ab_W7.size
    clear ab_W7 bd0_w6 bd1_w6 bd2_w6 bdF_w6 bdL_w6 ba0_w6 ba1_w6 ba2_w6 baF_w6 baL_w6 bn0_w6 bn1_w6 bn2_w6 bnF_w6 bnL_w6 oD_w6 oR_w6 acc_w6
    go_loopw [13] (fun t13 wr => ∃ i : Nat, t13 = .int .i64 i ∧ i ≤ n ∧ W7 = wr) (fun t13 _ => n - (intOf t13).toNat)
    case atStart => exact ⟨0, rfl, Nat.zero_le _, rfl⟩
    case round =>
      obtain ⟨i, rfl, hi, rfl⟩ := hrel
      by_cases hlt : i < n
      · obtain ⟨p, o, q, hbp, hp, hq, c0, c1', c2, c3, c4, c5⟩ := rowLs oD_W7.out.row i (by have := HN.out; omega)
        have gq : decide (K + 1 ≤ q.k) = false := decide_eq_false (by have := Htk.out q (List.mem_of_getElem? hq); omega)
        have i0 : (0 : Int) ≤ (i : Int) := by omega
        have i1 : (i : Int) < (n : Int) := by omega
        subst hbp
        clear c0 c1' c2 c3 c5 hq
        go_wp2_with fail
        go_roundw
        case rel => exact ⟨i + 1, by go_num, by omega, trivial⟩
        case measure => simp [intOf]; omega
      · have gi : decide ((i : Int) < (n : Int)) = false := decide_eq_false (by omega)
        clear Htk
        go_wp2_with fail
        refine (CH.out _ A4 C4 oR_W7.out.row (HGl.out.later acc_W7.out)).mono ?_
        rintro e w8 ⟨rfl, hb8⟩
        clear CH
        have bd0_w8 := (hb8.cell bdL_W7).trans bd0_W7
        have bd1_w8 := (hb8.cell bdL_W7).trans bd1_W7
        have bd2_w8 := (hb8.cell bdL_W7).trans bd2_W7
        have bdF_w8 : ∀ o, w8.frozen? ⟨w1.heap.size, o, none⟩ = false := fun o => (hb8.frozen bdL_W7).trans (bdF_W7 o)
        have bdL_w8 : w1.heap.size < w8.heap.size := Nat.lt_of_lt_of_le bdL_W7 hb8.size
        have ba0_w8 := (hb8.cell baL_W7).trans ba0_W7
        have ba1_w8 := (hb8.cell baL_W7).trans ba1_W7
        have ba2_w8 := (hb8.cell baL_W7).trans ba2_W7
        have baF_w8 : ∀ o, w8.frozen? ⟨w1.heap.size + 1, o, none⟩ = false := fun o => (hb8.frozen baL_W7).trans (baF_W7 o)
        have baL_w8 : w1.heap.size + 1 < w8.heap.size := Nat.lt_of_lt_of_le baL_W7 hb8.size
        have bn0_w8 := (hb8.cell bnL_W7).trans bn0_W7
        have bn1_w8 := (hb8.cell bnL_W7).trans bn1_W7
        have bn2_w8 := (hb8.cell bnL_W7).trans bn2_W7
        have bnF_w8 : ∀ o, w8.frozen? ⟨w4.heap.size, o, none⟩ = false := fun o => (hb8.frozen bnL_W7).trans (bnF_W7 o)
        have bnL_w8 : w4.heap.size < w8.heap.size := Nat.lt_of_lt_of_le bnL_W7 hb8.size
        have bs0_w8 := (hb8.cell bsL_W7).trans bs0_W7
        have bs1_w8 := (hb8.cell bsL_W7).trans bs1_W7
        have bs2_w8 := (hb8.cell bsL_W7).trans bs2_W7
        have bsF_w8 : ∀ o, w8.frozen? ⟨w6.heap.size, o, none⟩ = false := fun o => (hb8.frozen bsL_W7).trans (bsF_W7 o)
        have bsL_w8 : w6.heap.size < w8.heap.size := Nat.lt_of_lt_of_le bsL_W7 hb8.size
        have oD_w8 := hidP (OwnG.later oD_W7.out hb8)
        have oR_w8 := hidP (OwnG.later oR_W7.out hb8)
        have acc_w8 := hidP (acc_W7.out.trans (hb8.mono acc_W7.out.size))
        have sz_w8 : Hid (W7.heap.size ≤ w8.heap.size) := hidP hb8.size
        clear hb8 bd0_W7 bd1_W7 bd2_W7 bdF_W7 bdL_W7 ba0_W7 ba1_W7 ba2_W7 baF_W7 baL_W7 bn0_W7 bn1_W7 bn2_W7 bnF_W7 bnL_W7 bs0_W7 bs1_W7 bs2_W7 bsF_W7 bsL_W7 oD_W7 oR_W7 acc_W7
        go_wp2_with fail
        refine (CRn.out _ A4 C4 oR_w8.out.row (HGl.out.later acc_w8.out)).mono ?_
        rintro e w9 ⟨A9, C9, rfl, o9, hb9⟩
        have O9 := hidP o9
        clear o9
        have bd0_w9 := (hb9.cell bdL_w8).trans bd0_w8
        have bd1_w9 := (hb9.cell bdL_w8).trans bd1_w8
        have bd2_w9 := (hb9.cell bdL_w8).trans bd2_w8
        have bdF_w9 : ∀ o, w9.frozen? ⟨w1.heap.size, o, none⟩ = false := fun o => (hb9.frozen bdL_w8).trans (bdF_w8 o)
        have bdL_w9 : w1.heap.size < w9.heap.size := Nat.lt_of_lt_of_le bdL_w8 hb9.size
        have ba0_w9 := (hb9.cell baL_w8).trans ba0_w8
        have ba1_w9 := (hb9.cell baL_w8).trans ba1_w8
        have ba2_w9 := (hb9.cell baL_w8).trans ba2_w8
        have baF_w9 : ∀ o, w9.frozen? ⟨w1.heap.size + 1, o, none⟩ = false := fun o => (hb9.frozen baL_w8).trans (baF_w8 o)
        have baL_w9 : w1.heap.size + 1 < w9.heap.size := Nat.lt_of_lt_of_le baL_w8 hb9.size
        have bn0_w9 := (hb9.cell bnL_w8).trans bn0_w8
        have bn1_w9 := (hb9.cell bnL_w8).trans bn1_w8
        have bn2_w9 := (hb9.cell bnL_w8).trans bn2_w8
        have bnF_w9 : ∀ o, w9.frozen? ⟨w4.heap.size, o, none⟩ = false := fun o => (hb9.frozen bnL_w8).trans (bnF_w8 o)
        have bnL_w9 : w4.heap.size < w9.heap.size := Nat.lt_of_lt_of_le bnL_w8 hb9.size
        have bs0_w9 := (hb9.cell bsL_w8).trans bs0_w8
        have bs1_w9 := (hb9.cell bsL_w8).trans bs1_w8
        have bs2_w9 := (hb9.cell bsL_w8).trans bs2_w8
        have bsF_w9 : ∀ o, w9.frozen? ⟨w6.heap.size, o, none⟩ = false := fun o => (hb9.frozen bsL_w8).trans (bsF_w8 o)
        have bsL_w9 : w6.heap.size < w9.heap.size := Nat.lt_of_lt_of_le bsL_w8 hb9.size
        have oD_w9 := hidP (OwnG.later oD_w8.out hb9)
        have oR_w9 := hidP (OwnG.later oR_w8.out hb9)
        have acc_w9 := hidP (acc_w8.out.trans (hb9.mono acc_w8.out.size))
        have sz_w9 : Hid (w8.heap.size ≤ w9.heap.size) := hidP hb9.size
        clear hb9 bd0_w8 bd1_w8 bd2_w8 bdF_w8 bdL_w8 ba0_w8 ba1_w8 ba2_w8 baF_w8 baL_w8 bn0_w8 bn1_w8 bn2_w8 bnF_w8 bnL_w8 bs0_w8 bs1_w8 bs2_w8 bsF_w8 bsL_w8 oD_w8 oR_w8 acc_w8
        have oP_w9 := hidP (O9.out)
        have lhP : Hid (∀ k, (Value.slice A9 (n + 1) C9).ownBlock = some k → w8.heap.size ≤ k ∧ k < w9.heap.size) := hidP (fun k hk => OwnG.lt oP_w9.out k hk)
        clear O9
        go_wp2_with fail
        obtain ⟨br0_W10, br1_W10, br2_W10⟩ := box3B w9 26 (.slice A9 (n + 1) C9) (.int .i64 (K + 1)) (.int .i64 N)
        have brF_W10 : ∀ o, (w9.alloc (.cells #[.slice A9 (n + 1) C9, .int .i64 (K + 1), .int .i64 N] 26)).frozen? ⟨w9.heap.size, o, none⟩ = false := fun o => by simp [go_sem]
        have brL_W10 : w9.heap.size < (w9.alloc (.cells #[.slice A9 (n + 1) C9, .int .i64 (K + 1), .int .i64 N] 26)).heap.size := by simp
        have ab_W10 := alloc_below w9 (.cells #[.slice A9 (n + 1) C9, .int .i64 (K + 1), .int .i64 N] 26)
        have as_W10 : Hid ((w9.alloc (.cells #[.slice A9 (n + 1) C9, .int .i64 (K + 1), .int .i64 N] 26)).heap.size = w9.heap.size + 1) := hidP (by simp)
        generalize w9.alloc (.cells #[.slice A9 (n + 1) C9, .int .i64 (K + 1), .int .i64 N] 26) = W10 at *
        have bd0_W10 := (ab_W10.cell bdL_w9).trans bd0_w9
        have bd1_W10 := (ab_W10.cell bdL_w9).trans bd1_w9
        have bd2_W10 := (ab_W10.cell bdL_w9).trans bd2_w9
        have bdF_W10 : ∀ o, W10.frozen? ⟨w1.heap.size, o, none⟩ = false := fun o => (ab_W10.frozen bdL_w9).trans (bdF_w9 o)
        have bdL_W10 : w1.heap.size < W10.heap.size := Nat.lt_of_lt_of_le bdL_w9 ab_W10.size
        have ba0_W10 := (ab_W10.cell baL_w9).trans ba0_w9
        have ba1_W10 := (ab_W10.cell baL_w9).trans ba1_w9
        have ba2_W10 := (ab_W10.cell baL_w9).trans ba2_w9
        have baF_W10 : ∀ o, W10.frozen? ⟨w1.heap.size + 1, o, none⟩ = false := fun o => (ab_W10.frozen baL_w9).trans (baF_w9 o)
        have baL_W10 : w1.heap.size + 1 < W10.heap.size := Nat.lt_of_lt_of_le baL_w9 ab_W10.size
        have bn0_W10 := (ab_W10.cell bnL_w9).trans bn0_w9
        have bn1_W10 := (ab_W10.cell bnL_w9).trans bn1_w9
        have bn2_W10 := (ab_W10.cell bnL_w9).trans bn2_w9
        have bnF_W10 : ∀ o, W10.frozen? ⟨w4.heap.size, o, none⟩ = false := fun o => (ab_W10.frozen bnL_w9).trans (bnF_w9 o)
        have bnL_W10 : w4.heap.size < W10.heap.size := Nat.lt_of_lt_of_le bnL_w9 ab_W10.size
        have bs0_W10 := (ab_W10.cell bsL_w9).trans bs0_w9
        have bs1_W10 := (ab_W10.cell bsL_w9).trans bs1_w9
        have bs2_W10 := (ab_W10.cell bsL_w9).trans bs2_w9
        have bsF_W10 : ∀ o, W10.frozen? ⟨w6.heap.size, o, none⟩ = false := fun o => (ab_W10.frozen bsL_w9).trans (bsF_w9 o)
        have bsL_W10 : w6.heap.size < W10.heap.size := Nat.lt_of_lt_of_le bsL_w9 ab_W10.size
        have oD_W10 := hidP (OwnG.later oD_w9.out ab_W10)
        have oR_W10 := hidP (OwnG.later oR_w9.out ab_W10)
        have oP_W10 := hidP (OwnG.later oP_w9.out ab_W10)
        have acc_W10 := hidP (acc_w9.out.trans (ab_W10.mono acc_w9.out.size))
        have sz_W10 : Hid (w9.heap.size ≤ W10.heap.size) := hidP ab_W10.size
        clear ab_W10 bd0_w9 bd1_w9 bd2_w9 bdF_w9 bdL_w9 ba0_w9 ba1_w9 ba2_w9 baF_w9 baL_w9 bn0_w9 bn1_w9 bn2_w9 bnF_w9 bnL_w9 bs0_w9 bs1_w9 bs2_w9 bsF_w9 bsL_w9 oD_w9 oR_w9 oP_w9 acc_w9
        refine (CRl.out _ A4 C4 oR_W10.out.row (HGl.out.later acc_W10.out)).mono ?_
        rintro e w11 ⟨A11, C11, rfl, o11, hb11⟩
        have O11 := hidP o11
        clear o11
        have bd0_w11 := (hb11.cell bdL_W10).trans bd0_W10
        have bd1_w11 := (hb11.cell bdL_W10).trans bd1_W10
        have bd2_w11 := (hb11.cell bdL_W10).trans bd2_W10
        have bdF_w11 : ∀ o, w11.frozen? ⟨w1.heap.size, o, none⟩ = false := fun o => (hb11.frozen bdL_W10).trans (bdF_W10 o)
        have bdL_w11 : w1.heap.size < w11.heap.size := Nat.lt_of_lt_of_le bdL_W10 hb11.size
        have ba0_w11 := (hb11.cell baL_W10).trans ba0_W10
        have ba1_w11 := (hb11.cell baL_W10).trans ba1_W10
        have ba2_w11 := (hb11.cell baL_W10).trans ba2_W10
        have baF_w11 : ∀ o, w11.frozen? ⟨w1.heap.size + 1, o, none⟩ = false := fun o => (hb11.frozen baL_W10).trans (baF_W10 o)
        have baL_w11 : w1.heap.size + 1 < w11.heap.size := Nat.lt_of_lt_of_le baL_W10 hb11.size
        have bn0_w11 := (hb11.cell bnL_W10).trans bn0_W10
        have bn1_w11 := (hb11.cell bnL_W10).trans bn1_W10
        have bn2_w11 := (hb11.cell bnL_W10).trans bn2_W10
        have bnF_w11 : ∀ o, w11.frozen? ⟨w4.heap.size, o, none⟩ = false := fun o => (hb11.frozen bnL_W10).trans (bnF_W10 o)
        have bnL_w11 : w4.heap.size < w11.heap.size := Nat.lt_of_lt_of_le bnL_W10 hb11.size
        have bs0_w11 := (hb11.cell bsL_W10).trans bs0_W10
        have bs1_w11 := (hb11.cell bsL_W10).trans bs1_W10
        have bs2_w11 := (hb11.cell bsL_W10).trans bs2_W10
        have bsF_w11 : ∀ o, w11.frozen? ⟨w6.heap.size, o, none⟩ = false := fun o => (hb11.frozen bsL_W10).trans (bsF_W10 o)
        have bsL_w11 : w6.heap.size < w11.heap.size := Nat.lt_of_lt_of_le bsL_W10 hb11.size
        have br0_w11 := (hb11.cell brL_W10).trans br0_W10
        have br1_w11 := (hb11.cell brL_W10).trans br1_W10
        have br2_w11 := (hb11.cell brL_W10).trans br2_W10
        have brF_w11 : ∀ o, w11.frozen? ⟨w9.heap.size, o, none⟩ = false := fun o => (hb11.frozen brL_W10).trans (brF_W10 o)
        have brL_w11 : w9.heap.size < w11.heap.size := Nat.lt_of_lt_of_le brL_W10 hb11.size
        have oD_w11 := hidP (OwnG.later oD_W10.out hb11)
        have oR_w11 := hidP (OwnG.later oR_W10.out hb11)
        have oP_w11 := hidP (OwnG.later oP_W10.out hb11)
        have acc_w11 := hidP (acc_W10.out.trans (hb11.mono acc_W10.out.size))
        have sz_w11 : Hid (W10.heap.size ≤ w11.heap.size) := hidP hb11.size
        clear hb11 bd0_W10 bd1_W10 bd2_W10 bdF_W10 bdL_W10 ba0_W10 ba1_W10 ba2_W10 baF_W10 baL_W10 bn0_W10 bn1_W10 bn2_W10 bnF_W10 bnL_W10 bs0_W10 bs1_W10 bs2_W10 bsF_W10 bsL_W10 br0_W10 br1_W10 br2_W10 brF_W10 brL_W10 oD_W10 oR_W10 oP_W10 acc_W10
        have oQ_w11 := hidP (O11.out)
        have lhQ : Hid (∀ k, (Value.slice A11 (n + 1) C11).ownBlock = some k → W10.heap.size ≤ k ∧ k < w11.heap.size) := hidP (fun k hk => OwnG.lt oQ_w11.out k hk)
        clear O11
        go_wp2_with fail
        obtain ⟨bq0_W12, bq1_W12, bq2_W12⟩ := box3B w11 26 (.slice A11 (n + 1) C11) (.int .i64 (K + 1)) (.int .i64 N)
        have bqF_W12 : ∀ o, (w11.alloc (.cells #[.slice A11 (n + 1) C11, .int .i64 (K + 1), .int .i64 N] 26)).frozen? ⟨w11.heap.size, o, none⟩ = false := fun o => by simp [go_sem]
        have bqL_W12 : w11.heap.size < (w11.alloc (.cells #[.slice A11 (n + 1) C11, .int .i64 (K + 1), .int .i64 N] 26)).heap.size := by simp
        have ab_W12 := alloc_below w11 (.cells #[.slice A11 (n + 1) C11, .int .i64 (K + 1), .int .i64 N] 26)
        have as_W12 : Hid ((w11.alloc (.cells #[.slice A11 (n + 1) C11, .int .i64 (K + 1), .int .i64 N] 26)).heap.size = w11.heap.size + 1) := hidP (by simp)
        generalize w11.alloc (.cells #[.slice A11 (n + 1) C11, .int .i64 (K + 1), .int .i64 N] 26) = W12 at *
        have bd0_W12 := (ab_W12.cell bdL_w11).trans bd0_w11
        have bd1_W12 := (ab_W12.cell bdL_w11).trans bd1_w11
        have bd2_W12 := (ab_W12.cell bdL_w11).trans bd2_w11
        have bdF_W12 : ∀ o, W12.frozen? ⟨w1.heap.size, o, none⟩ = false := fun o => (ab_W12.frozen bdL_w11).trans (bdF_w11 o)
        have bdL_W12 : w1.heap.size < W12.heap.size := Nat.lt_of_lt_of_le bdL_w11 ab_W12.size
        have ba0_W12 := (ab_W12.cell baL_w11).trans ba0_w11
        have ba1_W12 := (ab_W12.cell baL_w11).trans ba1_w11
        have ba2_W12 := (ab_W12.cell baL_w11).trans ba2_w11
        have baF_W12 : ∀ o, W12.frozen? ⟨w1.heap.size + 1, o, none⟩ = false := fun o => (ab_W12.frozen baL_w11).trans (baF_w11 o)
        have baL_W12 : w1.heap.size + 1 < W12.heap.size := Nat.lt_of_lt_of_le baL_w11 ab_W12.size
        have bn0_W12 := (ab_W12.cell bnL_w11).trans bn0_w11
        have bn1_W12 := (ab_W12.cell bnL_w11).trans bn1_w11
        have bn2_W12 := (ab_W12.cell bnL_w11).trans bn2_w11
        have bnF_W12 : ∀ o, W12.frozen? ⟨w4.heap.size, o, none⟩ = false := fun o => (ab_W12.frozen bnL_w11).trans (bnF_w11 o)
        have bnL_W12 : w4.heap.size < W12.heap.size := Nat.lt_of_lt_of_le bnL_w11 ab_W12.size
        have bs0_W12 := (ab_W12.cell bsL_w11).trans bs0_w11
        have bs1_W12 := (ab_W12.cell bsL_w11).trans bs1_w11
        have bs2_W12 := (ab_W12.cell bsL_w11).trans bs2_w11
        have bsF_W12 : ∀ o, W12.frozen? ⟨w6.heap.size, o, none⟩ = false := fun o => (ab_W12.frozen bsL_w11).trans (bsF_w11 o)
        have bsL_W12 : w6.heap.size < W12.heap.size := Nat.lt_of_lt_of_le bsL_w11 ab_W12.size
        have br0_W12 := (ab_W12.cell brL_w11).trans br0_w11
        have br1_W12 := (ab_W12.cell brL_w11).trans br1_w11
        have br2_W12 := (ab_W12.cell brL_w11).trans br2_w11
        have brF_W12 : ∀ o, W12.frozen? ⟨w9.heap.size, o, none⟩ = false := fun o => (ab_W12.frozen brL_w11).trans (brF_w11 o)
        have brL_W12 : w9.heap.size < W12.heap.size := Nat.lt_of_lt_of_le brL_w11 ab_W12.size
        have oD_W12 := hidP (OwnG.later oD_w11.out ab_W12)
        have oR_W12 := hidP (OwnG.later oR_w11.out ab_W12)
        have oP_W12 := hidP (OwnG.later oP_w11.out ab_W12)
        have oQ_W12 := hidP (OwnG.later oQ_w11.out ab_W12)
        have acc_W12 := hidP (acc_w11.out.trans (ab_W12.mono acc_w11.out.size))
        have sz_W12 : Hid (w11.heap.size ≤ W12.heap.size) := hidP ab_W12.size
        clear ab_W12 bd0_w11 bd1_w11 bd2_w11 bdF_w11 bdL_w11 ba0_w11 ba1_w11 ba2_w11 baF_w11 baL_w11 bn0_w11 bn1_w11 bn2_w11 bnF_w11 bnL_w11 bs0_w11 bs1_w11 bs2_w11 bsF_w11 bsL_w11 br0_w11 br1_w11 br2_w11 brF_w11 brL_w11 oD_w11 oR_w11 oP_w11 oQ_w11 acc_w11
        refine (CRy.out _ A4 C4 oR_W12.out.row (HGl.out.later acc_W12.out)).mono ?_
        rintro e w13 ⟨A13, C13, rfl, o13, hb13⟩
        have O13 := hidP o13
        clear o13
        have bd0_w13 := (hb13.cell bdL_W12).trans bd0_W12
        have bd1_w13 := (hb13.cell bdL_W12).trans bd1_W12
        have bd2_w13 := (hb13.cell bdL_W12).trans bd2_W12
        have bdF_w13 : ∀ o, w13.frozen? ⟨w1.heap.size, o, none⟩ = false := fun o => (hb13.frozen bdL_W12).trans (bdF_W12 o)
        have bdL_w13 : w1.heap.size < w13.heap.size := Nat.lt_of_lt_of_le bdL_W12 hb13.size
        have ba0_w13 := (hb13.cell baL_W12).trans ba0_W12
        have ba1_w13 := (hb13.cell baL_W12).trans ba1_W12
        have ba2_w13 := (hb13.cell baL_W12).trans ba2_W12
        have baF_w13 : ∀ o, w13.frozen? ⟨w1.heap.size + 1, o, none⟩ = false := fun o => (hb13.frozen baL_W12).trans (baF_W12 o)
        have baL_w13 : w1.heap.size + 1 < w13.heap.size := Nat.lt_of_lt_of_le baL_W12 hb13.size
        have bn0_w13 := (hb13.cell bnL_W12).trans bn0_W12
        have bn1_w13 := (hb13.cell bnL_W12).trans bn1_W12
        have bn2_w13 := (hb13.cell bnL_W12).trans bn2_W12
        have bnF_w13 : ∀ o, w13.frozen? ⟨w4.heap.size, o, none⟩ = false := fun o => (hb13.frozen bnL_W12).trans (bnF_W12 o)
        have bnL_w13 : w4.heap.size < w13.heap.size := Nat.lt_of_lt_of_le bnL_W12 hb13.size
        have bs0_w13 := (hb13.cell bsL_W12).trans bs0_W12
        have bs1_w13 := (hb13.cell bsL_W12).trans bs1_W12
        have bs2_w13 := (hb13.cell bsL_W12).trans bs2_W12
        have bsF_w13 : ∀ o, w13.frozen? ⟨w6.heap.size, o, none⟩ = false := fun o => (hb13.frozen bsL_W12).trans (bsF_W12 o)
        have bsL_w13 : w6.heap.size < w13.heap.size := Nat.lt_of_lt_of_le bsL_W12 hb13.size
        have br0_w13 := (hb13.cell brL_W12).trans br0_W12
        have br1_w13 := (hb13.cell brL_W12).trans br1_W12
        have br2_w13 := (hb13.cell brL_W12).trans br2_W12
        have brF_w13 : ∀ o, w13.frozen? ⟨w9.heap.size, o, none⟩ = false := fun o => (hb13.frozen brL_W12).trans (brF_W12 o)
        have brL_w13 : w9.heap.size < w13.heap.size := Nat.lt_of_lt_of_le brL_W12 hb13.size
        have bq0_w13 := (hb13.cell bqL_W12).trans bq0_W12
        have bq1_w13 := (hb13.cell bqL_W12).trans bq1_W12
        have bq2_w13 := (hb13.cell bqL_W12).trans bq2_W12
        have bqF_w13 : ∀ o, w13.frozen? ⟨w11.heap.size, o, none⟩ = false := fun o => (hb13.frozen bqL_W12).trans (bqF_W12 o)
        have bqL_w13 : w11.heap.size < w13.heap.size := Nat.lt_of_lt_of_le bqL_W12 hb13.size
        have oD_w13 := hidP (OwnG.later oD_W12.out hb13)
        have oR_w13 := hidP (OwnG.later oR_W12.out hb13)
        have oP_w13 := hidP (OwnG.later oP_W12.out hb13)
        have oQ_w13 := hidP (OwnG.later oQ_W12.out hb13)
        have acc_w13 := hidP (acc_W12.out.trans (hb13.mono acc_W12.out.size))
        have sz_w13 : Hid (W12.heap.size ≤ w13.heap.size) := hidP hb13.size
        clear hb13 bd0_W12 bd1_W12 bd2_W12 bdF_W12 bdL_W12 ba0_W12 ba1_W12 ba2_W12 baF_W12 baL_W12 bn0_W12 bn1_W12 bn2_W12 bnF_W12 bnL_W12 bs0_W12 bs1_W12 bs2_W12 bsF_W12 bsL_W12 br0_W12 br1_W12 br2_W12 brF_W12 brL_W12 bq0_W12 bq1_W12 bq2_W12 bqF_W12 bqL_W12 oD_W12 oR_W12 oP_W12 oQ_W12 acc_W12
        have oG_w13 := hidP (O13.out)
        have lhG : Hid (∀ k, (Value.slice A13 n C13).ownBlock = some k → W12.heap.size ≤ k ∧ k < w13.heap.size) := hidP (fun k hk => OwnG.lt oG_w13.out k hk)
        clear O13
        go_wp2_with fail
        obtain ⟨bg0_W14, bg1_W14, bg2_W14⟩ := box3B w13 26 (.slice A13 n C13) (.int .i64 (K + 1)) (.int .i64 N)
        have bgF_W14 : ∀ o, (w13.alloc (.cells #[.slice A13 n C13, .int .i64 (K + 1), .int .i64 N] 26)).frozen? ⟨w13.heap.size, o, none⟩ = false := fun o => by simp [go_sem]
        have bgL_W14 : w13.heap.size < (w13.alloc (.cells #[.slice A13 n C13, .int .i64 (K + 1), .int .i64 N] 26)).heap.size := by simp
        have ab_W14 := alloc_below w13 (.cells #[.slice A13 n C13, .int .i64 (K + 1), .int .i64 N] 26)
        have as_W14 : Hid ((w13.alloc (.cells #[.slice A13 n C13, .int .i64 (K + 1), .int .i64 N] 26)).heap.size = w13.heap.size + 1) := hidP (by simp)
        generalize w13.alloc (.cells #[.slice A13 n C13, .int .i64 (K + 1), .int .i64 N] 26) = W14 at *
        have bd0_W14 := (ab_W14.cell bdL_w13).trans bd0_w13
        have bd1_W14 := (ab_W14.cell bdL_w13).trans bd1_w13
        have bd2_W14 := (ab_W14.cell bdL_w13).trans bd2_w13
        have bdF_W14 : ∀ o, W14.frozen? ⟨w1.heap.size, o, none⟩ = false := fun o => (ab_W14.frozen bdL_w13).trans (bdF_w13 o)
        have bdL_W14 : w1.heap.size < W14.heap.size := Nat.lt_of_lt_of_le bdL_w13 ab_W14.size
        have ba0_W14 := (ab_W14.cell baL_w13).trans ba0_w13
        have ba1_W14 := (ab_W14.cell baL_w13).trans ba1_w13
        have ba2_W14 := (ab_W14.cell baL_w13).trans ba2_w13
        have baF_W14 : ∀ o, W14.frozen? ⟨w1.heap.size + 1, o, none⟩ = false := fun o => (ab_W14.frozen baL_w13).trans (baF_w13 o)
        have baL_W14 : w1.heap.size + 1 < W14.heap.size := Nat.lt_of_lt_of_le baL_w13 ab_W14.size
        have bn0_W14 := (ab_W14.cell bnL_w13).trans bn0_w13
        have bn1_W14 := (ab_W14.cell bnL_w13).trans bn1_w13
        have bn2_W14 := (ab_W14.cell bnL_w13).trans bn2_w13
        have bnF_W14 : ∀ o, W14.frozen? ⟨w4.heap.size, o, none⟩ = false := fun o => (ab_W14.frozen bnL_w13).trans (bnF_w13 o)
        have bnL_W14 : w4.heap.size < W14.heap.size := Nat.lt_of_lt_of_le bnL_w13 ab_W14.size
        have bs0_W14 := (ab_W14.cell bsL_w13).trans bs0_w13
        have bs1_W14 := (ab_W14.cell bsL_w13).trans bs1_w13
        have bs2_W14 := (ab_W14.cell bsL_w13).trans bs2_w13
        have bsF_W14 : ∀ o, W14.frozen? ⟨w6.heap.size, o, none⟩ = false := fun o => (ab_W14.frozen bsL_w13).trans (bsF_w13 o)
        have bsL_W14 : w6.heap.size < W14.heap.size := Nat.lt_of_lt_of_le bsL_w13 ab_W14.size
        have br0_W14 := (ab_W14.cell brL_w13).trans br0_w13
        have br1_W14 := (ab_W14.cell brL_w13).trans br1_w13
        have br2_W14 := (ab_W14.cell brL_w13).trans br2_w13
        have brF_W14 : ∀ o, W14.frozen? ⟨w9.heap.size, o, none⟩ = false := fun o => (ab_W14.frozen brL_w13).trans (brF_w13 o)
        have brL_W14 : w9.heap.size < W14.heap.size := Nat.lt_of_lt_of_le brL_w13 ab_W14.size
        have bq0_W14 := (ab_W14.cell bqL_w13).trans bq0_w13
        have bq1_W14 := (ab_W14.cell bqL_w13).trans bq1_w13
        have bq2_W14 := (ab_W14.cell bqL_w13).trans bq2_w13
        have bqF_W14 : ∀ o, W14.frozen? ⟨w11.heap.size, o, none⟩ = false := fun o => (ab_W14.frozen bqL_w13).trans (bqF_w13 o)
        have bqL_W14 : w11.heap.size < W14.heap.size := Nat.lt_of_lt_of_le bqL_w13 ab_W14.size
        have oD_W14 := hidP (OwnG.later oD_w13.out ab_W14)
        have oR_W14 := hidP (OwnG.later oR_w13.out ab_W14)
        have oP_W14 := hidP (OwnG.later oP_w13.out ab_W14)
        have oQ_W14 := hidP (OwnG.later oQ_w13.out ab_W14)
        have oG_W14 := hidP (OwnG.later oG_w13.out ab_W14)
        have acc_W14 := hidP (acc_w13.out.trans (ab_W14.mono acc_w13.out.size))
        have sz_W14 : Hid (w13.heap.size ≤ W14.heap.size) := hidP ab_W14.size
        clear ab_W14 bd0_w13 bd1_w13 bd2_w13 bdF_w13 bdL_w13 ba0_w13 ba1_w13 ba2_w13 baF_w13 baL_w13 bn0_w13 bn1_w13 bn2_w13 bnF_w13 bnL_w13 bs0_w13 bs1_w13 bs2_w13 bsF_w13 bsL_w13 br0_w13 br1_w13 br2_w13 brF_w13 brL_w13 bq0_w13 bq1_w13 bq2_w13 bqF_w13 bqL_w13 oD_w13 oR_w13 oP_w13 oQ_w13 oG_w13 acc_w13
        clear CRn CRl CRy
        refine (CH2.out _ A13 C13 oG_W14.out.row (HGl.out.later acc_W14.out)).mono ?_
        rintro e w15 ⟨rfl, hb15⟩
        have bd0_w15 := (hb15.cell bdL_W14).trans bd0_W14
        have bd1_w15 := (hb15.cell bdL_W14).trans bd1_W14
        have bd2_w15 := (hb15.cell bdL_W14).trans bd2_W14
        have bdF_w15 : ∀ o, w15.frozen? ⟨w1.heap.size, o, none⟩ = false := fun o => (hb15.frozen bdL_W14).trans (bdF_W14 o)
        have bdL_w15 : w1.heap.size < w15.heap.size := Nat.lt_of_lt_of_le bdL_W14 hb15.size
        have ba0_w15 := (hb15.cell baL_W14).trans ba0_W14
        have ba1_w15 := (hb15.cell baL_W14).trans ba1_W14
        have ba2_w15 := (hb15.cell baL_W14).trans ba2_W14
        have baF_w15 : ∀ o, w15.frozen? ⟨w1.heap.size + 1, o, none⟩ = false := fun o => (hb15.frozen baL_W14).trans (baF_W14 o)
        have baL_w15 : w1.heap.size + 1 < w15.heap.size := Nat.lt_of_lt_of_le baL_W14 hb15.size
        have bn0_w15 := (hb15.cell bnL_W14).trans bn0_W14
        have bn1_w15 := (hb15.cell bnL_W14).trans bn1_W14
        have bn2_w15 := (hb15.cell bnL_W14).trans bn2_W14
        have bnF_w15 : ∀ o, w15.frozen? ⟨w4.heap.size, o, none⟩ = false := fun o => (hb15.frozen bnL_W14).trans (bnF_W14 o)
        have bnL_w15 : w4.heap.size < w15.heap.size := Nat.lt_of_lt_of_le bnL_W14 hb15.size
        have bs0_w15 := (hb15.cell bsL_W14).trans bs0_W14
        have bs1_w15 := (hb15.cell bsL_W14).trans bs1_W14
        have bs2_w15 := (hb15.cell bsL_W14).trans bs2_W14
        have bsF_w15 : ∀ o, w15.frozen? ⟨w6.heap.size, o, none⟩ = false := fun o => (hb15.frozen bsL_W14).trans (bsF_W14 o)
        have bsL_w15 : w6.heap.size < w15.heap.size := Nat.lt_of_lt_of_le bsL_W14 hb15.size
        have br0_w15 := (hb15.cell brL_W14).trans br0_W14
        have br1_w15 := (hb15.cell brL_W14).trans br1_W14
        have br2_w15 := (hb15.cell brL_W14).trans br2_W14
        have brF_w15 : ∀ o, w15.frozen? ⟨w9.heap.size, o, none⟩ = false := fun o => (hb15.frozen brL_W14).trans (brF_W14 o)
        have brL_w15 : w9.heap.size < w15.heap.size := Nat.lt_of_lt_of_le brL_W14 hb15.size
        have bq0_w15 := (hb15.cell bqL_W14).trans bq0_W14
        have bq1_w15 := (hb15.cell bqL_W14).trans bq1_W14
        have bq2_w15 := (hb15.cell bqL_W14).trans bq2_W14
        have bqF_w15 : ∀ o, w15.frozen? ⟨w11.heap.size, o, none⟩ = false := fun o => (hb15.frozen bqL_W14).trans (bqF_W14 o)
        have bqL_w15 : w11.heap.size < w15.heap.size := Nat.lt_of_lt_of_le bqL_W14 hb15.size
        have bg0_w15 := (hb15.cell bgL_W14).trans bg0_W14
        have bg1_w15 := (hb15.cell bgL_W14).trans bg1_W14
        have bg2_w15 := (hb15.cell bgL_W14).trans bg2_W14
        have bgF_w15 : ∀ o, w15.frozen? ⟨w13.heap.size, o, none⟩ = false := fun o => (hb15.frozen bgL_W14).trans (bgF_W14 o)
        have bgL_w15 : w13.heap.size < w15.heap.size := Nat.lt_of_lt_of_le bgL_W14 hb15.size
        have oD_w15 := hidP (OwnG.later oD_W14.out hb15)
        have oR_w15 := hidP (OwnG.later oR_W14.out hb15)
        have oP_w15 := hidP (OwnG.later oP_W14.out hb15)
        have oQ_w15 := hidP (OwnG.later oQ_W14.out hb15)
        have oG_w15 := hidP (OwnG.later oG_W14.out hb15)
        have acc_w15 := hidP (acc_W14.out.trans (hb15.mono acc_W14.out.size))
        have sz_w15 : Hid (W14.heap.size ≤ w15.heap.size) := hidP hb15.size
        clear hb15 bd0_W14 bd1_W14 bd2_W14 bdF_W14 bdL_W14 ba0_W14 ba1_W14 ba2_W14 baF_W14 baL_W14 bn0_W14 bn1_W14 bn2_W14 bnF_W14 bnL_W14 bs0_W14 bs1_W14 bs2_W14 bsF_W14 bsL_W14 br0_W14 br1_W14 br2_W14 brF_W14 brL_W14 bq0_W14 bq1_W14 bq2_W14 bqF_W14 bqL_W14 bg0_W14 bg1_W14 bg2_W14 bgF_W14 bgL_W14 oD_W14 oR_W14 oP_W14 oQ_W14 oG_W14 acc_W14
        go_wp2_with fail
        refine (CG2.out _ A13 C13 oG_w15.out.row (HGl.out.later acc_w15.out)).mono ?_
        rintro e w16 ⟨A16, C16, rfl, hb16⟩
        have bd0_w16 := (hb16.cell bdL_w15).trans bd0_w15
        have bd1_w16 := (hb16.cell bdL_w15).trans bd1_w15
        have bd2_w16 := (hb16.cell bdL_w15).trans bd2_w15
        have bdF_w16 : ∀ o, w16.frozen? ⟨w1.heap.size, o, none⟩ = false := fun o => (hb16.frozen bdL_w15).trans (bdF_w15 o)
        have bdL_w16 : w1.heap.size < w16.heap.size := Nat.lt_of_lt_of_le bdL_w15 hb16.size
        have ba0_w16 := (hb16.cell baL_w15).trans ba0_w15
        have ba1_w16 := (hb16.cell baL_w15).trans ba1_w15
        have ba2_w16 := (hb16.cell baL_w15).trans ba2_w15
        have baF_w16 : ∀ o, w16.frozen? ⟨w1.heap.size + 1, o, none⟩ = false := fun o => (hb16.frozen baL_w15).trans (baF_w15 o)
        have baL_w16 : w1.heap.size + 1 < w16.heap.size := Nat.lt_of_lt_of_le baL_w15 hb16.size
        have bn0_w16 := (hb16.cell bnL_w15).trans bn0_w15
        have bn1_w16 := (hb16.cell bnL_w15).trans bn1_w15
        have bn2_w16 := (hb16.cell bnL_w15).trans bn2_w15
        have bnF_w16 : ∀ o, w16.frozen? ⟨w4.heap.size, o, none⟩ = false := fun o => (hb16.frozen bnL_w15).trans (bnF_w15 o)
        have bnL_w16 : w4.heap.size < w16.heap.size := Nat.lt_of_lt_of_le bnL_w15 hb16.size
        have bs0_w16 := (hb16.cell bsL_w15).trans bs0_w15
        have bs1_w16 := (hb16.cell bsL_w15).trans bs1_w15
        have bs2_w16 := (hb16.cell bsL_w15).trans bs2_w15
        have bsF_w16 : ∀ o, w16.frozen? ⟨w6.heap.size, o, none⟩ = false := fun o => (hb16.frozen bsL_w15).trans (bsF_w15 o)
        have bsL_w16 : w6.heap.size < w16.heap.size := Nat.lt_of_lt_of_le bsL_w15 hb16.size
        have br0_w16 := (hb16.cell brL_w15).trans br0_w15
        have br1_w16 := (hb16.cell brL_w15).trans br1_w15
        have br2_w16 := (hb16.cell brL_w15).trans br2_w15
        have brF_w16 : ∀ o, w16.frozen? ⟨w9.heap.size, o, none⟩ = false := fun o => (hb16.frozen brL_w15).trans (brF_w15 o)
        have brL_w16 : w9.heap.size < w16.heap.size := Nat.lt_of_lt_of_le brL_w15 hb16.size
        have bq0_w16 := (hb16.cell bqL_w15).trans bq0_w15
        have bq1_w16 := (hb16.cell bqL_w15).trans bq1_w15
        have bq2_w16 := (hb16.cell bqL_w15).trans bq2_w15
        have bqF_w16 : ∀ o, w16.frozen? ⟨w11.heap.size, o, none⟩ = false := fun o => (hb16.frozen bqL_w15).trans (bqF_w15 o)
        have bqL_w16 : w11.heap.size < w16.heap.size := Nat.lt_of_lt_of_le bqL_w15 hb16.size
        have bg0_w16 := (hb16.cell bgL_w15).trans bg0_w15
        have bg1_w16 := (hb16.cell bgL_w15).trans bg1_w15
        have bg2_w16 := (hb16.cell bgL_w15).trans bg2_w15
        have bgF_w16 : ∀ o, w16.frozen? ⟨w13.heap.size, o, none⟩ = false := fun o => (hb16.frozen bgL_w15).trans (bgF_w15 o)
        have bgL_w16 : w13.heap.size < w16.heap.size := Nat.lt_of_lt_of_le bgL_w15 hb16.size
        have oD_w16 := hidP (OwnG.later oD_w15.out hb16)
        have oR_w16 := hidP (OwnG.later oR_w15.out hb16)
        have oP_w16 := hidP (OwnG.later oP_w15.out hb16)
        have oQ_w16 := hidP (OwnG.later oQ_w15.out hb16)
        have oG_w16 := hidP (OwnG.later oG_w15.out hb16)
        have acc_w16 := hidP (acc_w15.out.trans (hb16.mono acc_w15.out.size))
        have sz_w16 : Hid (w15.heap.size ≤ w16.heap.size) := hidP hb16.size
        clear hb16 bd0_w15 bd1_w15 bd2_w15 bdF_w15 bdL_w15 ba0_w15 ba1_w15 ba2_w15 baF_w15 baL_w15 bn0_w15 bn1_w15 bn2_w15 bnF_w15 bnL_w15 bs0_w15 bs1_w15 bs2_w15 bsF_w15 bsL_w15 br0_w15 br1_w15 br2_w15 brF_w15 brL_w15 bq0_w15 bq1_w15 bq2_w15 bqF_w15 bqL_w15 bg0_w15 bg1_w15 bg2_w15 bgF_w15 bgL_w15 oD_w15 oR_w15 oP_w15 oQ_w15 oG_w15 acc_w15
        clear CH2 CG2
        go_wp2_with fail
        obtain ⟨bz0_W17, bz1_W17, bz2_W17⟩ := box3B w16 26 (.slice A16 n3 C16) (.int .i64 T3) (.int .i64 N)
        have bzF_W17 : ∀ o, (w16.alloc (.cells #[.slice A16 n3 C16, .int .i64 T3, .int .i64 N] 26)).frozen? ⟨w16.heap.size, o, none⟩ = false := fun o => by simp [go_sem]
        have bzL_W17 : w16.heap.size < (w16.alloc (.cells #[.slice A16 n3 C16, .int .i64 T3, .int .i64 N] 26)).heap.size := by simp
        have ab_W17 := alloc_below w16 (.cells #[.slice A16 n3 C16, .int .i64 T3, .int .i64 N] 26)
        have as_W17 : Hid ((w16.alloc (.cells #[.slice A16 n3 C16, .int .i64 T3, .int .i64 N] 26)).heap.size = w16.heap.size + 1) := hidP (by simp)
        generalize w16.alloc (.cells #[.slice A16 n3 C16, .int .i64 T3, .int .i64 N] 26) = W17 at *
        have bd0_W17 := (ab_W17.cell bdL_w16).trans bd0_w16
        have bd1_W17 := (ab_W17.cell bdL_w16).trans bd1_w16
        have bd2_W17 := (ab_W17.cell bdL_w16).trans bd2_w16
        have bdF_W17 : ∀ o, W17.frozen? ⟨w1.heap.size, o, none⟩ = false := fun o => (ab_W17.frozen bdL_w16).trans (bdF_w16 o)
        have bdL_W17 : w1.heap.size < W17.heap.size := Nat.lt_of_lt_of_le bdL_w16 ab_W17.size
        have ba0_W17 := (ab_W17.cell baL_w16).trans ba0_w16
        have ba1_W17 := (ab_W17.cell baL_w16).trans ba1_w16
        have ba2_W17 := (ab_W17.cell baL_w16).trans ba2_w16
        have baF_W17 : ∀ o, W17.frozen? ⟨w1.heap.size + 1, o, none⟩ = false := fun o => (ab_W17.frozen baL_w16).trans (baF_w16 o)
        have baL_W17 : w1.heap.size + 1 < W17.heap.size := Nat.lt_of_lt_of_le baL_w16 ab_W17.size
        have bn0_W17 := (ab_W17.cell bnL_w16).trans bn0_w16
        have bn1_W17 := (ab_W17.cell bnL_w16).trans bn1_w16
        have bn2_W17 := (ab_W17.cell bnL_w16).trans bn2_w16
        have bnF_W17 : ∀ o, W17.frozen? ⟨w4.heap.size, o, none⟩ = false := fun o => (ab_W17.frozen bnL_w16).trans (bnF_w16 o)
        have bnL_W17 : w4.heap.size < W17.heap.size := Nat.lt_of_lt_of_le bnL_w16 ab_W17.size
        have bs0_W17 := (ab_W17.cell bsL_w16).trans bs0_w16
        have bs1_W17 := (ab_W17.cell bsL_w16).trans bs1_w16
        have bs2_W17 := (ab_W17.cell bsL_w16).trans bs2_w16
        have bsF_W17 : ∀ o, W17.frozen? ⟨w6.heap.size, o, none⟩ = false := fun o => (ab_W17.frozen bsL_w16).trans (bsF_w16 o)
        have bsL_W17 : w6.heap.size < W17.heap.size := Nat.lt_of_lt_of_le bsL_w16 ab_W17.size
        have br0_W17 := (ab_W17.cell brL_w16).trans br0_w16
        have br1_W17 := (ab_W17.cell brL_w16).trans br1_w16
        have br2_W17 := (ab_W17.cell brL_w16).trans br2_w16
        have brF_W17 : ∀ o, W17.frozen? ⟨w9.heap.size, o, none⟩ = false := fun o => (ab_W17.frozen brL_w16).trans (brF_w16 o)
        have brL_W17 : w9.heap.size < W17.heap.size := Nat.lt_of_lt_of_le brL_w16 ab_W17.size
        have bq0_W17 := (ab_W17.cell bqL_w16).trans bq0_w16
        have bq1_W17 := (ab_W17.cell bqL_w16).trans bq1_w16
        have bq2_W17 := (ab_W17.cell bqL_w16).trans bq2_w16
        have bqF_W17 : ∀ o, W17.frozen? ⟨w11.heap.size, o, none⟩ = false := fun o => (ab_W17.frozen bqL_w16).trans (bqF_w16 o)
        have bqL_W17 : w11.heap.size < W17.heap.size := Nat.lt_of_lt_of_le bqL_w16 ab_W17.size
        have bg0_W17 := (ab_W17.cell bgL_w16).trans bg0_w16
        have bg1_W17 := (ab_W17.cell bgL_w16).trans bg1_w16
        have bg2_W17 := (ab_W17.cell bgL_w16).trans bg2_w16
        have bgF_W17 : ∀ o, W17.frozen? ⟨w13.heap.size, o, none⟩ = false := fun o => (ab_W17.frozen bgL_w16).trans (bgF_w16 o)
        have bgL_W17 : w13.heap.size < W17.heap.size := Nat.lt_of_lt_of_le bgL_w16 ab_W17.size
        have oD_W17 := hidP (OwnG.later oD_w16.out ab_W17)
        have oR_W17 := hidP (OwnG.later oR_w16.out ab_W17)
        have oP_W17 := hidP (OwnG.later oP_w16.out ab_W17)
        have oQ_W17 := hidP (OwnG.later oQ_w16.out ab_W17)
        have oG_W17 := hidP (OwnG.later oG_w16.out ab_W17)
        have acc_W17 := hidP (acc_w16.out.trans (ab_W17.mono acc_w16.out.size))
        have sz_W17 : Hid (w16.heap.size ≤ W17.heap.size) := hidP ab_W17.size
        clear ab_W17 bd0_w16 bd1_w16 bd2_w16 bdF_w16 bdL_w16 ba0_w16 ba1_w16 ba2_w16 baF_w16 baL_w16 bn0_w16 bn1_w16 bn2_w16 bnF_w16 bnL_w16 bs0_w16 bs1_w16 bs2_w16 bsF_w16 bsL_w16 br0_w16 br1_w16 br2_w16 brF_w16 brL_w16 bq0_w16 bq1_w16 bq2_w16 bqF_w16 bqL_w16 bg0_w16 bg1_w16 bg2_w16 bgF_w16 bgL_w16 oD_w16 oR_w16 oP_w16 oQ_w16 oG_w16 acc_w16
        refine (HIo.out _ A4 C4 oR_W17.out.row).mono ?_
        rintro e w18 ⟨rfl, hb18⟩
        have bd0_w18 := (hb18.cell bdL_W17).trans bd0_W17
        have bd1_w18 := (hb18.cell bdL_W17).trans bd1_W17
        have bd2_w18 := (hb18.cell bdL_W17).trans bd2_W17
        have bdF_w18 : ∀ o, w18.frozen? ⟨w1.heap.size, o, none⟩ = false := fun o => (hb18.frozen bdL_W17).trans (bdF_W17 o)
        have bdL_w18 : w1.heap.size < w18.heap.size := Nat.lt_of_lt_of_le bdL_W17 hb18.size
        have ba0_w18 := (hb18.cell baL_W17).trans ba0_W17
        have ba1_w18 := (hb18.cell baL_W17).trans ba1_W17
        have ba2_w18 := (hb18.cell baL_W17).trans ba2_W17
        have baF_w18 : ∀ o, w18.frozen? ⟨w1.heap.size + 1, o, none⟩ = false := fun o => (hb18.frozen baL_W17).trans (baF_W17 o)
        have baL_w18 : w1.heap.size + 1 < w18.heap.size := Nat.lt_of_lt_of_le baL_W17 hb18.size
        have bn0_w18 := (hb18.cell bnL_W17).trans bn0_W17
        have bn1_w18 := (hb18.cell bnL_W17).trans bn1_W17
        have bn2_w18 := (hb18.cell bnL_W17).trans bn2_W17
        have bnF_w18 : ∀ o, w18.frozen? ⟨w4.heap.size, o, none⟩ = false := fun o => (hb18.frozen bnL_W17).trans (bnF_W17 o)
        have bnL_w18 : w4.heap.size < w18.heap.size := Nat.lt_of_lt_of_le bnL_W17 hb18.size
        have bs0_w18 := (hb18.cell bsL_W17).trans bs0_W17
        have bs1_w18 := (hb18.cell bsL_W17).trans bs1_W17
        have bs2_w18 := (hb18.cell bsL_W17).trans bs2_W17
        have bsF_w18 : ∀ o, w18.frozen? ⟨w6.heap.size, o, none⟩ = false := fun o => (hb18.frozen bsL_W17).trans (bsF_W17 o)
        have bsL_w18 : w6.heap.size < w18.heap.size := Nat.lt_of_lt_of_le bsL_W17 hb18.size
        have br0_w18 := (hb18.cell brL_W17).trans br0_W17
        have br1_w18 := (hb18.cell brL_W17).trans br1_W17
        have br2_w18 := (hb18.cell brL_W17).trans br2_W17
        have brF_w18 : ∀ o, w18.frozen? ⟨w9.heap.size, o, none⟩ = false := fun o => (hb18.frozen brL_W17).trans (brF_W17 o)
        have brL_w18 : w9.heap.size < w18.heap.size := Nat.lt_of_lt_of_le brL_W17 hb18.size
        have bq0_w18 := (hb18.cell bqL_W17).trans bq0_W17
        have bq1_w18 := (hb18.cell bqL_W17).trans bq1_W17
        have bq2_w18 := (hb18.cell bqL_W17).trans bq2_W17
        have bqF_w18 : ∀ o, w18.frozen? ⟨w11.heap.size, o, none⟩ = false := fun o => (hb18.frozen bqL_W17).trans (bqF_W17 o)
        have bqL_w18 : w11.heap.size < w18.heap.size := Nat.lt_of_lt_of_le bqL_W17 hb18.size
        have bg0_w18 := (hb18.cell bgL_W17).trans bg0_W17
        have bg1_w18 := (hb18.cell bgL_W17).trans bg1_W17
        have bg2_w18 := (hb18.cell bgL_W17).trans bg2_W17
        have bgF_w18 : ∀ o, w18.frozen? ⟨w13.heap.size, o, none⟩ = false := fun o => (hb18.frozen bgL_W17).trans (bgF_W17 o)
        have bgL_w18 : w13.heap.size < w18.heap.size := Nat.lt_of_lt_of_le bgL_W17 hb18.size
        have bz0_w18 := (hb18.cell bzL_W17).trans bz0_W17
        have bz1_w18 := (hb18.cell bzL_W17).trans bz1_W17
        have bz2_w18 := (hb18.cell bzL_W17).trans bz2_W17
        have bzF_w18 : ∀ o, w18.frozen? ⟨w16.heap.size, o, none⟩ = false := fun o => (hb18.frozen bzL_W17).trans (bzF_W17 o)
        have bzL_w18 : w16.heap.size < w18.heap.size := Nat.lt_of_lt_of_le bzL_W17 hb18.size
        have oD_w18 := hidP (OwnG.later oD_W17.out hb18)
        have oR_w18 := hidP (OwnG.later oR_W17.out hb18)
        have oP_w18 := hidP (OwnG.later oP_W17.out hb18)
        have oQ_w18 := hidP (OwnG.later oQ_W17.out hb18)
        have oG_w18 := hidP (OwnG.later oG_W17.out hb18)
        have acc_w18 := hidP (acc_W17.out.trans (hb18.mono acc_W17.out.size))
        have sz_w18 : Hid (W17.heap.size ≤ w18.heap.size) := hidP hb18.size
        clear hb18 bd0_W17 bd1_W17 bd2_W17 bdF_W17 bdL_W17 ba0_W17 ba1_W17 ba2_W17 baF_W17 baL_W17 bn0_W17 bn1_W17 bn2_W17 bnF_W17 bnL_W17 bs0_W17 bs1_W17 bs2_W17 bsF_W17 bsL_W17 br0_W17 br1_W17 br2_W17 brF_W17 brL_W17 bq0_W17 bq1_W17 bq2_W17 bqF_W17 bqL_W17 bg0_W17 bg1_W17 bg2_W17 bgF_W17 bgL_W17 bz0_W17 bz1_W17 bz2_W17 bzF_W17 bzL_W17 oD_W17 oR_W17 oP_W17 oQ_W17 oG_W17 acc_W17
        go_wp2_with fail
        refine (HSm1.out _ A9 C9 A4 C4 oP_w18.out.row oR_w18.out.row).mono ?_
        rintro e w19 ⟨rfl, hb19⟩
        have bd0_w19 := (hb19.cell bdL_w18).trans bd0_w18
        have bd1_w19 := (hb19.cell bdL_w18).trans bd1_w18
        have bd2_w19 := (hb19.cell bdL_w18).trans bd2_w18
        have bdF_w19 : ∀ o, w19.frozen? ⟨w1.heap.size, o, none⟩ = false := fun o => (hb19.frozen bdL_w18).trans (bdF_w18 o)
        have bdL_w19 : w1.heap.size < w19.heap.size := Nat.lt_of_lt_of_le bdL_w18 hb19.size
        have ba0_w19 := (hb19.cell baL_w18).trans ba0_w18
        have ba1_w19 := (hb19.cell baL_w18).trans ba1_w18
        have ba2_w19 := (hb19.cell baL_w18).trans ba2_w18
        have baF_w19 : ∀ o, w19.frozen? ⟨w1.heap.size + 1, o, none⟩ = false := fun o => (hb19.frozen baL_w18).trans (baF_w18 o)
        have baL_w19 : w1.heap.size + 1 < w19.heap.size := Nat.lt_of_lt_of_le baL_w18 hb19.size
        have bn0_w19 := (hb19.cell bnL_w18).trans bn0_w18
        have bn1_w19 := (hb19.cell bnL_w18).trans bn1_w18
        have bn2_w19 := (hb19.cell bnL_w18).trans bn2_w18
        have bnF_w19 : ∀ o, w19.frozen? ⟨w4.heap.size, o, none⟩ = false := fun o => (hb19.frozen bnL_w18).trans (bnF_w18 o)
        have bnL_w19 : w4.heap.size < w19.heap.size := Nat.lt_of_lt_of_le bnL_w18 hb19.size
        have bs0_w19 := (hb19.cell bsL_w18).trans bs0_w18
        have bs1_w19 := (hb19.cell bsL_w18).trans bs1_w18
        have bs2_w19 := (hb19.cell bsL_w18).trans bs2_w18
        have bsF_w19 : ∀ o, w19.frozen? ⟨w6.heap.size, o, none⟩ = false := fun o => (hb19.frozen bsL_w18).trans (bsF_w18 o)
        have bsL_w19 : w6.heap.size < w19.heap.size := Nat.lt_of_lt_of_le bsL_w18 hb19.size
        have br0_w19 := (hb19.cell brL_w18).trans br0_w18
        have br1_w19 := (hb19.cell brL_w18).trans br1_w18
        have br2_w19 := (hb19.cell brL_w18).trans br2_w18
        have brF_w19 : ∀ o, w19.frozen? ⟨w9.heap.size, o, none⟩ = false := fun o => (hb19.frozen brL_w18).trans (brF_w18 o)
        have brL_w19 : w9.heap.size < w19.heap.size := Nat.lt_of_lt_of_le brL_w18 hb19.size
        have bq0_w19 := (hb19.cell bqL_w18).trans bq0_w18
        have bq1_w19 := (hb19.cell bqL_w18).trans bq1_w18
        have bq2_w19 := (hb19.cell bqL_w18).trans bq2_w18
        have bqF_w19 : ∀ o, w19.frozen? ⟨w11.heap.size, o, none⟩ = false := fun o => (hb19.frozen bqL_w18).trans (bqF_w18 o)
        have bqL_w19 : w11.heap.size < w19.heap.size := Nat.lt_of_lt_of_le bqL_w18 hb19.size
        have bg0_w19 := (hb19.cell bgL_w18).trans bg0_w18
        have bg1_w19 := (hb19.cell bgL_w18).trans bg1_w18
        have bg2_w19 := (hb19.cell bgL_w18).trans bg2_w18
        have bgF_w19 : ∀ o, w19.frozen? ⟨w13.heap.size, o, none⟩ = false := fun o => (hb19.frozen bgL_w18).trans (bgF_w18 o)
        have bgL_w19 : w13.heap.size < w19.heap.size := Nat.lt_of_lt_of_le bgL_w18 hb19.size
        have bz0_w19 := (hb19.cell bzL_w18).trans bz0_w18
        have bz1_w19 := (hb19.cell bzL_w18).trans bz1_w18
        have bz2_w19 := (hb19.cell bzL_w18).trans bz2_w18
        have bzF_w19 : ∀ o, w19.frozen? ⟨w16.heap.size, o, none⟩ = false := fun o => (hb19.frozen bzL_w18).trans (bzF_w18 o)
        have bzL_w19 : w16.heap.size < w19.heap.size := Nat.lt_of_lt_of_le bzL_w18 hb19.size
        have oD_w19 := hidP (OwnG.later oD_w18.out hb19)
        have oR_w19 := hidP (OwnG.later oR_w18.out hb19)
        have oP_w19 := hidP (OwnG.later oP_w18.out hb19)
        have oQ_w19 := hidP (OwnG.later oQ_w18.out hb19)
        have oG_w19 := hidP (OwnG.later oG_w18.out hb19)
        have acc_w19 := hidP (acc_w18.out.trans (hb19.mono acc_w18.out.size))
        have sz_w19 : Hid (w18.heap.size ≤ w19.heap.size) := hidP hb19.size
        clear hb19 bd0_w18 bd1_w18 bd2_w18 bdF_w18 bdL_w18 ba0_w18 ba1_w18 ba2_w18 baF_w18 baL_w18 bn0_w18 bn1_w18 bn2_w18 bnF_w18 bnL_w18 bs0_w18 bs1_w18 bs2_w18 bsF_w18 bsL_w18 br0_w18 br1_w18 br2_w18 brF_w18 brL_w18 bq0_w18 bq1_w18 bq2_w18 bqF_w18 bqL_w18 bg0_w18 bg1_w18 bg2_w18 bgF_w18 bgL_w18 bz0_w18 bz1_w18 bz2_w18 bzF_w18 bzL_w18 oD_w18 oR_w18 oP_w18 oQ_w18 oG_w18 acc_w18
        go_wp2_with fail
        refine (HSm1.out _ A11 C11 A4 C4 oQ_w19.out.row oR_w19.out.row).mono ?_
        rintro e w20 ⟨rfl, hb20⟩
        have bd0_w20 := (hb20.cell bdL_w19).trans bd0_w19
        have bd1_w20 := (hb20.cell bdL_w19).trans bd1_w19
        have bd2_w20 := (hb20.cell bdL_w19).trans bd2_w19
        have bdF_w20 : ∀ o, w20.frozen? ⟨w1.heap.size, o, none⟩ = false := fun o => (hb20.frozen bdL_w19).trans (bdF_w19 o)
        have bdL_w20 : w1.heap.size < w20.heap.size := Nat.lt_of_lt_of_le bdL_w19 hb20.size
        have ba0_w20 := (hb20.cell baL_w19).trans ba0_w19
        have ba1_w20 := (hb20.cell baL_w19).trans ba1_w19
        have ba2_w20 := (hb20.cell baL_w19).trans ba2_w19
        have baF_w20 : ∀ o, w20.frozen? ⟨w1.heap.size + 1, o, none⟩ = false := fun o => (hb20.frozen baL_w19).trans (baF_w19 o)
        have baL_w20 : w1.heap.size + 1 < w20.heap.size := Nat.lt_of_lt_of_le baL_w19 hb20.size
        have bn0_w20 := (hb20.cell bnL_w19).trans bn0_w19
        have bn1_w20 := (hb20.cell bnL_w19).trans bn1_w19
        have bn2_w20 := (hb20.cell bnL_w19).trans bn2_w19
        have bnF_w20 : ∀ o, w20.frozen? ⟨w4.heap.size, o, none⟩ = false := fun o => (hb20.frozen bnL_w19).trans (bnF_w19 o)
        have bnL_w20 : w4.heap.size < w20.heap.size := Nat.lt_of_lt_of_le bnL_w19 hb20.size
        have bs0_w20 := (hb20.cell bsL_w19).trans bs0_w19
        have bs1_w20 := (hb20.cell bsL_w19).trans bs1_w19
        have bs2_w20 := (hb20.cell bsL_w19).trans bs2_w19
        have bsF_w20 : ∀ o, w20.frozen? ⟨w6.heap.size, o, none⟩ = false := fun o => (hb20.frozen bsL_w19).trans (bsF_w19 o)
        have bsL_w20 : w6.heap.size < w20.heap.size := Nat.lt_of_lt_of_le bsL_w19 hb20.size
        have br0_w20 := (hb20.cell brL_w19).trans br0_w19
        have br1_w20 := (hb20.cell brL_w19).trans br1_w19
        have br2_w20 := (hb20.cell brL_w19).trans br2_w19
        have brF_w20 : ∀ o, w20.frozen? ⟨w9.heap.size, o, none⟩ = false := fun o => (hb20.frozen brL_w19).trans (brF_w19 o)
        have brL_w20 : w9.heap.size < w20.heap.size := Nat.lt_of_lt_of_le brL_w19 hb20.size
        have bq0_w20 := (hb20.cell bqL_w19).trans bq0_w19
        have bq1_w20 := (hb20.cell bqL_w19).trans bq1_w19
        have bq2_w20 := (hb20.cell bqL_w19).trans bq2_w19
        have bqF_w20 : ∀ o, w20.frozen? ⟨w11.heap.size, o, none⟩ = false := fun o => (hb20.frozen bqL_w19).trans (bqF_w19 o)
        have bqL_w20 : w11.heap.size < w20.heap.size := Nat.lt_of_lt_of_le bqL_w19 hb20.size
        have bg0_w20 := (hb20.cell bgL_w19).trans bg0_w19
        have bg1_w20 := (hb20.cell bgL_w19).trans bg1_w19
        have bg2_w20 := (hb20.cell bgL_w19).trans bg2_w19
        have bgF_w20 : ∀ o, w20.frozen? ⟨w13.heap.size, o, none⟩ = false := fun o => (hb20.frozen bgL_w19).trans (bgF_w19 o)
        have bgL_w20 : w13.heap.size < w20.heap.size := Nat.lt_of_lt_of_le bgL_w19 hb20.size
        have bz0_w20 := (hb20.cell bzL_w19).trans bz0_w19
        have bz1_w20 := (hb20.cell bzL_w19).trans bz1_w19
        have bz2_w20 := (hb20.cell bzL_w19).trans bz2_w19
        have bzF_w20 : ∀ o, w20.frozen? ⟨w16.heap.size, o, none⟩ = false := fun o => (hb20.frozen bzL_w19).trans (bzF_w19 o)
        have bzL_w20 : w16.heap.size < w20.heap.size := Nat.lt_of_lt_of_le bzL_w19 hb20.size
        have oD_w20 := hidP (OwnG.later oD_w19.out hb20)
        have oR_w20 := hidP (OwnG.later oR_w19.out hb20)
        have oP_w20 := hidP (OwnG.later oP_w19.out hb20)
        have oQ_w20 := hidP (OwnG.later oQ_w19.out hb20)
        have oG_w20 := hidP (OwnG.later oG_w19.out hb20)
        have acc_w20 := hidP (acc_w19.out.trans (hb20.mono acc_w19.out.size))
        have sz_w20 : Hid (w19.heap.size ≤ w20.heap.size) := hidP hb20.size
        clear hb20 bd0_w19 bd1_w19 bd2_w19 bdF_w19 bdL_w19 ba0_w19 ba1_w19 ba2_w19 baF_w19 baL_w19 bn0_w19 bn1_w19 bn2_w19 bnF_w19 bnL_w19 bs0_w19 bs1_w19 bs2_w19 bsF_w19 bsL_w19 br0_w19 br1_w19 br2_w19 brF_w19 brL_w19 bq0_w19 bq1_w19 bq2_w19 bqF_w19 bqL_w19 bg0_w19 bg1_w19 bg2_w19 bgF_w19 bgL_w19 bz0_w19 bz1_w19 bz2_w19 bzF_w19 bzL_w19 oD_w19 oR_w19 oP_w19 oQ_w19 oG_w19 acc_w19
        rcases hAC with hAC | ⟨hAC, rfl⟩
        · go_wp2_with fail
          go_ret
          exact ⟨rfl, acc_w20.out⟩
        · go_wp2_with fail
          go_ret
          exact ⟨rfl, acc_w20.out⟩

end Go.Proofs.YtddnofonodgneaaGreatDoor
namespace Go.Proofs.YtddnofonodgneaaGreatDoor
open Go.ChangeShapes Go.WideShapes Go.ChangeAt Go.RowKit Go.Joins Go.Deep

theorem Tryz.ownB6 : ownKnob Tryz.prog.godebug = none := by kernel_rfl
theorem Tryz.laidOutB6 : laidOutB Tryz.prog = true := by kernel_rfl
theorem Tryz.cellsByte : Tryz.prog.cellsOf 5 = 1 := by kernel_rfl

/-- The code's bytes out of the reading of a row of bytes. -/
theorem bytes_open {H : Type} {enc : TypeId × Value → H} {W : World} {a : Option Addr} {len cap : Nat} {d : DataW H} {p : List MemPlace}
    (h : DataW.Trod enc Tryz.prog W 0 (fun _ => true) true 22 (.slice a len cap) d p) : Bytes W a len := by
  obtain ⟨fuel, hf⟩ := h
  rcases open_slice1 Tryz.underlying22 Tryz.cellsByte hf with ⟨hcs, _⟩ | ⟨a', len', cap', m, n, V, D, Pl, hcs, _, hl, _, hm, _, hV⟩
  · simp [Value.cells] at hcs
    obtain ⟨rfl, rfl, rfl⟩ := hcs
    exact fun j hj => absurd hj (Nat.not_lt_zero j)
  · simp [Value.cells] at hcs
    obtain ⟨rfl, rfl, rfl⟩ := hcs
    intro j hj
    simp at hm
    obtain ⟨hc, ht⟩ := hV j (by omega)
    obtain ⟨v, e, _, wv⟩ := DataW.trod_int Tryz.underlying5 ht
    simp at e
    rw [e] at hc
    have hb : 0 ≤ v ∧ v ≤ 255 := by simpa [Lit.wf, IntKind.min, IntKind.max, IntKind.signed, IntKind.bits] using wv
    obtain ⟨p', o', sp⟩ := a'
    cases sp with
    | some q =>
      exfalso
      have h0 := (hV 0 (by omega)).1
      rw [show Addr.add ⟨p', o', some q⟩ 0 = ⟨p', o', some q⟩ from rfl] at h0
      unfold World.cell? at h0
      split at h0
      · simp at h0
      · cases h0
    | none =>
      have hc' : W.cell? ⟨p', o' + j, none⟩ = some (.int .u8 v) := by
        cases j with
        | zero => simpa [Addr.add] using hc
        | succ i => simpa [Addr.add] using hc
      exact ⟨p', o', v, rfl, World.block_lt_of_cell? W _ hc', hc', hb.1, by omega⟩

set_option maxRecDepth 10000 in
set_option maxHeartbeats 4000000 in
theorem lawGranted (a : Option Addr) (len cap : Nat) (w : World) (hB : Bytes w a len) (hg : GlobE w) :
    Calls Tryz.prog 3 #[.slice a len cap] w fun e w' => e = .returned (.bool true) ∧ Below w.heap.size w w' := by
  by_cases hl : len ≤ 1048576
  · exact lawGranted_of a len cap w hl hg (drawGrant_any a len cap w hB hl)
  · have HG := hidP (bigF a len cap)
    have hbig : decide ((1048576 : Int) < (len : Int)) = true := decide_eq_true (by omega)
    rw [hbig] at HG
    clear hB hbig hg
    go_enter Tryz.func3, Tryz.ntmps3
    go_wp2_with fail
    refine (HG.out _).mono ?_
    rintro e w0 ⟨rfl, hw0⟩
    rw [hw0]
    clear hw0 w0
    go_wp2_with fail
    go_ret
    exact ⟨rfl, Below.refl _ _⟩

theorem Tryz.et : Tryz.prog.globalNamed "errors.errorType" = some 0 := by kernel_rfl
theorem Tryz.rt : (Tryz.prog.cutTypes.find? (·.1 == "internal/reflectlite.rtype")).map (·.2) = some 138 := by kernel_rfl
theorem Tryz.oneRow : ((List.range 202).filter fun t => Tryz.prog.rowNamed t [101, 114, 114, 111, 114]) = [58] := by kernel_rfl
theorem Tryz.sizeT : Tryz.prog.types.size = 202 := by kernel_rfl
/-- What the row's list gives: the one variable's cell. -/
theorem glob_of {W : World} (h : laidMetH Tryz.prog Rows.fnGrantedRow.laid W) : GlobE W := by
  have h' : laidMet Tryz.prog [] W ∧ handlesMet Tryz.prog Rows.fnGrantedRow.laid W := h
  obtain ⟨name, u, ty, e1, e2, e3, e4, e5⟩ := h'.2 _ (List.mem_singleton.2 rfl)
  have en : name = [101, 114, 114, 111, 114] := (Option.some.inj e1).symm
  subst en
  obtain rfl := Option.some.inj (Tryz.rt.symm.trans e2)
  have hm : ty ∈ (List.range 202).filter fun t => Tryz.prog.rowNamed t [101, 114, 114, 111, 114] := List.mem_filter.2 ⟨List.mem_range.2 (by rw [← Tryz.sizeT]; exact e3), e4⟩
  rw [Tryz.oneRow] at hm
  obtain rfl := List.mem_singleton.1 hm
  have hh : typeHandle Tryz.prog 58 = .pointer (some ⟨1, 58, none⟩) := by kernel_rfl
  rw [hh] at e5
  simpa [GlobE] using World.var?_cell Tryz.et e5 0

/-- A world for the witness: the settled one, the variable's cell laid. -/
noncomputable def laidWorld (os : Os) : World :=
  let w0 := World.holding Tryz.prog os ⟨#[], #[], []⟩
  { w0 with heap := w0.heap.modify 0 fun
      | .cells _ t frozen => .cells #[.iface 138 (.agg #[.pointer (some ⟨1, 58, none⟩)])] t frozen
      | o => o }
theorem laidWorld_met (os : Os) (args : Array Value) : laidMetH Tryz.prog Rows.fnGrantedRow.laid ((laidWorld os).forCall (fun _ _ => 0) ⟨#[], args, []⟩).memory :=
  laidMetH_of_parts (laidMet_nil _ _) (by kernel_rfl)

set_option maxRecDepth 100000 in
theorem granted_lifted (os : Os) (started : os.Started) (H : Type) (enc : TypeId × Value → H) :
    ReturnsInHanded {} Tryz.checked os 3 .any (fun w args => (Rows.fnGrantedSpec.pre enc Tryz.prog Tryz.f3 [] false w args ∧ laidMetH Tryz.prog Rows.fnGrantedRow.laid w) ∧ sizedMet enc Tryz.prog Tryz.f3 (OpenSpec.ofChange Rows.fnGrantedSpec) false w args)
      (Rows.fnGrantedSpec.post enc Tryz.prog Tryz.f3 false true false false) := by
  refine returnsInHanded_of_change_and (C := Tryz.checked) (X := fun w _ => laidMetH Tryz.prog Rows.fnGrantedRow.laid w) (fun _ _ _ hh h => h.of_heap hh) Tryz.ownB6 started (by kernel_rfl) Tryz.func3
    (ChangeSpec.witness_at (enc := enc) (C := Tryz.checked) (os := os) (X := fun w _ => laidMetH Tryz.prog Rows.fnGrantedRow.laid w) false (laidWorld os) #[.slice none 0 0] 8 rfl (by kernel_rfl) (by kernel_rfl) (by kernel_rfl) (by kernel_rfl) (by kernel_rfl) (laidWorld_met os _)) ?_
  intro W base args ds gs before hval0 hW _ _ hL _
  have hval : ∀ (j : Nat) t v, Tryz.f3.params[j]? = some t → args[j]? = some v → Value.okWide Tryz.prog W .any base t v := hval0
  have hW' := hW
  obtain ⟨p, q, hA0, hV, rfl, _, _⟩ := hW
  have hA : DataW.TrodAll enc Tryz.prog W 0 (fun _ => true) true Tryz.f3.params.toList args.toList ds p := hA0
  rw [Tryz.params3] at hA hval
  obtain ⟨v0, d0, rfl, rfl, h0⟩ := trodAll_one hA
  obtain ⟨rfl, rfl⟩ := trodVars_none hV
  obtain ⟨a0, len, cap, rfl⟩ := okWide_slice Tryz.underlying22 (hval 0 22 v0 rfl rfl)
  clear hA0 hval0
  simp only [List.append_nil] at hW'
  have hg := glob_of hL
  have hlt : ∀ x ∈ p, x.block < W.heap.size := fun x hx => by simpa using hW'.lt x hx
  refine (lawGranted a0 len cap W (bytes_open h0) hg).mono fun e W' ⟨he, hb⟩ => ?_
  subst he
  exact ⟨_, rfl, ⟨_, _, _, [], p, [], hW', trodAll_mk1 (shut_bool Tryz.underlying4 true), trodAll_mk1 (Below.trod Tryz.laidOutB6 (by kernel_rfl) (of_decide_eq_true (by kernel_rfl)) h0 hb hlt), rfl, hb.frame _, fun h => by cases h⟩⟩


theorem granted_said : Rows.FnGrantedSaid :=
  OpenClaim.holds_of_wide 3 Tryz.f3 rfl rfl rfl rfl rfl rfl rfl ⟨rfl, rfl, rfl, rfl, rfl⟩ rfl rfl rfl rfl rfl (by kernel_rfl) Tryz.func3 (by kernel_rfl)
    (of_decide_eq_true (by kernel_rfl)) (by unfold Func.isWrapper; rw [if_neg (of_decide_eq_false (by kernel_rfl))]; exact ⟨rfl, rfl⟩)
    (fun os started H enc _ => granted_lifted os started H enc)

theorem plainD (f : FuncId) (fn : Func) (hf : Tryz.pinned.checked.prog.funcNamed "loop.example/g00113/laws.FnGranted" = some f) (hfn : Tryz.pinned.checked.prog.funcs[f]? = some fn) :
    true = Tryz.pinned.checked.prog.looks [] ∧ ∀ (j : Nat) t, fn.params[j]? = some t → Tryz.pinned.checked.prog.wantsStandIn t = false := by
  obtain rfl : f = 3 := Option.some.inj ((show Tryz.prog.funcNamed "loop.example/g00113/laws.FnGranted" = some 3 by kernel_rfl).symm.trans hf) |>.symm
  obtain rfl : fn = Tryz.f3 := (Option.some.inj (Tryz.func3.symm.trans hfn)).symm
  refine ⟨by kernel_rfl, fun j t ht => ?_⟩
  rw [Tryz.params3] at ht
  have hm := Array.mem_of_getElem? ht
  simp at hm
  rcases hm with rfl
  all_goals (first | exact (show Tryz.prog.wantsStandIn _ = false by kernel_rfl))

theorem granted_card : Rows.FnGrantedCardSaid :=
  Claim7.holds_tied_plain_at .later [] _ _ _ _ granted_said (fun _ h => by cases h) (by kernel_rfl) (fun _ h => by cases h) fnGranted_row_tie rfl ⟨rfl, rfl⟩ (by kernel_rfl) rfl plainD (by kernel_rfl)

end Go.Proofs.YtddnofonodgneaaGreatDoor
