/-
  The program's Grant where the lease comes in.
-/
import Derived.Test.YtafbekjpmjjlpaaGreatDoorV6IGr
namespace Go.Proofs.YtafbekjpmjjlpaaGreatDoor
open Go.RowKit

theorem frz_grownZ {w w' : World} {r : Option Nat} {b o : Nat} (hg : w.grownBy w' r) (hb : b < w.heap.size) (h : w.frozen? ⟨b, o, none⟩ = false) (hne : ∀ k, r = some k → k ≠ b) : w'.frozen? ⟨b, o, none⟩ = false :=
  (World.frozen?_of_block (w := w) (hg.block b hb (fun e => hne b e.symm rfl))).trans h

set_option maxRecDepth 10000 in
set_option maxHeartbeats 4000000 in
theorem iGr_yes (a : Option Addr) (n c : Nat) (T N : Int) (ls : List Ls) (ad : Ad) (own : ByteArray) (span : Int) (w : World) (hn : n = ls.length) (hB : RowG KLs w a ls) (hl : n ≤ 1048576) (hT : 0 ≤ T ∧ T < 1000000000) (hw : IntKind.i64.wrap (N + span) = N + span) (I : Nat) (hI : I ≤ n) (HP : ∀ W a c, RowG KLs W a ls → Calls Tryz.prog 22 #[.agg #[.slice a n c, .int .i64 T, .int .i64 N], .agg #[.bool ad.s, .int .i64 ad.H.toInt, .int .i64 ad.L.toInt], .string own, .int .i64 span] W fun e w' => e = .returned (.tuple #[.int .i64 I, .nilIface]) ∧ Below W.heap.size W w') :
    Calls Tryz.prog 8 #[.agg #[.slice a n c, .int .i64 T, .int .i64 N], .agg #[.bool ad.s, .int .i64 ad.H.toInt, .int .i64 ad.L.toInt], .string own, .int .i64 span] w fun e w' => ∃ a' c', e = .returned (.tuple #[.agg #[.slice a' (n + 1) c', .int .i64 (T + 1), .int .i64 N], .int .i64 (T + 1), .int .i64 0]) ∧ OwnG KLs 47 w' w.heap.size (.slice a' (n + 1) c') (ls.take I ++ [⟨ad, own, T + 1, N + span⟩] ++ ls.drop I) ∧ Below w.heap.size w w' := by
  have HOw := hidP (fun W h => ownBook_any a n c T N ls W hn (hB.later h) hl)
  have HPh := hidP HP
  have HN := hidP hn
  clear hB hn HP
  have hwT : IntKind.i64.wrap (T + 1) = T + 1 := by rw [IntKind.wrap_i64]; omega
  have hwT' : wrap64 (T + 1) = T + 1 := by rw [show wrap64 (T + 1) = IntKind.i64.wrap (T + 1) by rw [IntKind.wrap_i64, wrap64]]; exact hwT
  clear hT
  go_enter Tryz.func8, Tryz.ntmps8
  go_wp2_with fail
  obtain ⟨bk0_W1, bk1_W1, bk2_W1⟩ := box3B w 30 (.slice a n c) (.int .i64 T) (.int .i64 N)
  have bkF_W1 : ∀ o, (w.alloc (.cells #[.slice a n c, .int .i64 T, .int .i64 N] 30)).frozen? ⟨w.heap.size, o, none⟩ = false := fun o => by simp [go_sem]
  have bkL_W1 : w.heap.size < (w.alloc (.cells #[.slice a n c, .int .i64 T, .int .i64 N] 30)).heap.size := by simp
  have ab_W1 := alloc_below w (.cells #[.slice a n c, .int .i64 T, .int .i64 N] 30)
  have as_W1 : Hid ((w.alloc (.cells #[.slice a n c, .int .i64 T, .int .i64 N] 30)).heap.size = w.heap.size + 1) := hidP (by simp)
  generalize w.alloc (.cells #[.slice a n c, .int .i64 T, .int .i64 N] 30) = W1 at *
  have acc_W1 := hidP (ab_W1)
  have sz_W1 : Hid (w.heap.size ≤ W1.heap.size) := hidP ab_W1.size
  clear ab_W1 
  obtain ⟨at0_W2, at1_W2, at2_W2⟩ := box3B W1 34 (.bool ad.s) (.int .i64 ad.H.toInt) (.int .i64 ad.L.toInt)
  have atF_W2 : ∀ o, (W1.alloc (.cells #[.bool ad.s, .int .i64 ad.H.toInt, .int .i64 ad.L.toInt] 34)).frozen? ⟨W1.heap.size, o, none⟩ = false := fun o => by simp [go_sem]
  have atL_W2 : W1.heap.size < (W1.alloc (.cells #[.bool ad.s, .int .i64 ad.H.toInt, .int .i64 ad.L.toInt] 34)).heap.size := by simp
  have ab_W2 := alloc_below W1 (.cells #[.bool ad.s, .int .i64 ad.H.toInt, .int .i64 ad.L.toInt] 34)
  have as_W2 : Hid ((W1.alloc (.cells #[.bool ad.s, .int .i64 ad.H.toInt, .int .i64 ad.L.toInt] 34)).heap.size = W1.heap.size + 1) := hidP (by simp)
  generalize W1.alloc (.cells #[.bool ad.s, .int .i64 ad.H.toInt, .int .i64 ad.L.toInt] 34) = W2 at *
  have bk0_W2 := (ab_W2.cell bkL_W1).trans bk0_W1
  have bk1_W2 := (ab_W2.cell bkL_W1).trans bk1_W1
  have bk2_W2 := (ab_W2.cell bkL_W1).trans bk2_W1
  have bkF_W2 : ∀ o, W2.frozen? ⟨w.heap.size, o, none⟩ = false := fun o => (ab_W2.frozen bkL_W1).trans (bkF_W1 o)
  have bkL_W2 : w.heap.size < W2.heap.size := Nat.lt_of_lt_of_le bkL_W1 ab_W2.size
  have acc_W2 := hidP (acc_W1.out.trans (ab_W2.mono acc_W1.out.size))
  have sz_W2 : Hid (W1.heap.size ≤ W2.heap.size) := hidP ab_W2.size
  clear ab_W2 bk0_W1 bk1_W1 bk2_W1 bkF_W1 bkL_W1 acc_W1
  rw [as_W1.out] at at0_W2 at1_W2 at2_W2 atL_W2
  have atF_W2' : ∀ o, W2.frozen? ⟨w.heap.size + 1, o, none⟩ = false := fun o => by have := atF_W2 o; rw [as_W1.out] at this; exact this
  clear atF_W2
  have atF_W2 := atF_W2'
  clear atF_W2'
  obtain ⟨rs0_W3, rs1_W3, rs2_W3⟩ := box3B W2 30 (.slice none 0 0) (.int .i64 0) (.int .i64 0)
  have rsF_W3 : ∀ o, (W2.alloc (.cells #[.slice none 0 0, .int .i64 0, .int .i64 0] 30)).frozen? ⟨W2.heap.size, o, none⟩ = false := fun o => by simp [go_sem]
  have rsL_W3 : W2.heap.size < (W2.alloc (.cells #[.slice none 0 0, .int .i64 0, .int .i64 0] 30)).heap.size := by simp
  have ab_W3 := alloc_below W2 (.cells #[.slice none 0 0, .int .i64 0, .int .i64 0] 30)
  have as_W3 : Hid ((W2.alloc (.cells #[.slice none 0 0, .int .i64 0, .int .i64 0] 30)).heap.size = W2.heap.size + 1) := hidP (by simp)
  generalize W2.alloc (.cells #[.slice none 0 0, .int .i64 0, .int .i64 0] 30) = W3 at *
  have bk0_W3 := (ab_W3.cell bkL_W2).trans bk0_W2
  have bk1_W3 := (ab_W3.cell bkL_W2).trans bk1_W2
  have bk2_W3 := (ab_W3.cell bkL_W2).trans bk2_W2
  have bkF_W3 : ∀ o, W3.frozen? ⟨w.heap.size, o, none⟩ = false := fun o => (ab_W3.frozen bkL_W2).trans (bkF_W2 o)
  have bkL_W3 : w.heap.size < W3.heap.size := Nat.lt_of_lt_of_le bkL_W2 ab_W3.size
  have at0_W3 := (ab_W3.cell atL_W2).trans at0_W2
  have at1_W3 := (ab_W3.cell atL_W2).trans at1_W2
  have at2_W3 := (ab_W3.cell atL_W2).trans at2_W2
  have atF_W3 : ∀ o, W3.frozen? ⟨w.heap.size + 1, o, none⟩ = false := fun o => (ab_W3.frozen atL_W2).trans (atF_W2 o)
  have atL_W3 : w.heap.size + 1 < W3.heap.size := Nat.lt_of_lt_of_le atL_W2 ab_W3.size
  have acc_W3 := hidP (acc_W2.out.trans (ab_W3.mono acc_W2.out.size))
  have sz_W3 : Hid (W2.heap.size ≤ W3.heap.size) := hidP ab_W3.size
  clear ab_W3 bk0_W2 bk1_W2 bk2_W2 bkF_W2 bkL_W2 at0_W2 at1_W2 at2_W2 atF_W2 atL_W2 acc_W2
  rw [as_W2.out, as_W1.out] at rs0_W3 rs1_W3 rs2_W3 rsL_W3
  have rsF_W3' : ∀ o, W3.frozen? ⟨w.heap.size + 1 + 1, o, none⟩ = false := fun o => by have := rsF_W3 o; rw [as_W2.out, as_W1.out] at this; exact this
  clear rsF_W3
  have rsF_W3 := rsF_W3'
  clear rsF_W3'
  refine (HOw.out _ acc_W3.out).mono ?_
  rintro e w4 ⟨a3, c3, rfl, og3, hb4⟩
  have og3' := hidP og3
  clear og3
  have bk0_w4 := (hb4.cell bkL_W3).trans bk0_W3
  have bk1_w4 := (hb4.cell bkL_W3).trans bk1_W3
  have bk2_w4 := (hb4.cell bkL_W3).trans bk2_W3
  have bkF_w4 : ∀ o, w4.frozen? ⟨w.heap.size, o, none⟩ = false := fun o => (hb4.frozen bkL_W3).trans (bkF_W3 o)
  have bkL_w4 : w.heap.size < w4.heap.size := Nat.lt_of_lt_of_le bkL_W3 hb4.size
  have at0_w4 := (hb4.cell atL_W3).trans at0_W3
  have at1_w4 := (hb4.cell atL_W3).trans at1_W3
  have at2_w4 := (hb4.cell atL_W3).trans at2_W3
  have atF_w4 : ∀ o, w4.frozen? ⟨w.heap.size + 1, o, none⟩ = false := fun o => (hb4.frozen atL_W3).trans (atF_W3 o)
  have atL_w4 : w.heap.size + 1 < w4.heap.size := Nat.lt_of_lt_of_le atL_W3 hb4.size
  have rs0_w4 := (hb4.cell rsL_W3).trans rs0_W3
  have rs1_w4 := (hb4.cell rsL_W3).trans rs1_W3
  have rs2_w4 := (hb4.cell rsL_W3).trans rs2_W3
  have rsF_w4 : ∀ o, w4.frozen? ⟨w.heap.size + 1 + 1, o, none⟩ = false := fun o => (hb4.frozen rsL_W3).trans (rsF_W3 o)
  have rsL_w4 : w.heap.size + 1 + 1 < w4.heap.size := Nat.lt_of_lt_of_le rsL_W3 hb4.size
  have acc_w4 := hidP (acc_W3.out.trans (hb4.mono acc_W3.out.size))
  have sz_w4 : Hid (W3.heap.size ≤ w4.heap.size) := hidP hb4.size
  clear hb4 bk0_W3 bk1_W3 bk2_W3 bkF_W3 bkL_W3 at0_W3 at1_W3 at2_W3 atF_W3 atL_W3 rs0_W3 rs1_W3 rs2_W3 rsF_W3 rsL_W3 acc_W3
  have oL_w4 := hidP (og3'.out)
  have lhL : Hid (∀ k, (Value.slice a3 n c3).ownBlock = some k → W3.heap.size ≤ k ∧ k < w4.heap.size) := hidP (fun k hk => OwnG.lt oL_w4.out k hk)
  clear og3'
  go_wp2_with fail
  have bk0_W5 : (((w4.setCell ⟨w.heap.size, 0, none⟩ (.slice a3 n c3)).setCell ⟨w.heap.size, 1, none⟩ (.int .i64 T)).setCell ⟨w.heap.size, 2, none⟩ (.int .i64 N)).cell? ⟨w.heap.size, 0, none⟩ = some (.slice a3 n c3) := by simp [go_sem, bk0_w4]
  have bk1_W5 : (((w4.setCell ⟨w.heap.size, 0, none⟩ (.slice a3 n c3)).setCell ⟨w.heap.size, 1, none⟩ (.int .i64 T)).setCell ⟨w.heap.size, 2, none⟩ (.int .i64 N)).cell? ⟨w.heap.size, 1, none⟩ = some (.int .i64 T) := by simp [go_sem, bk1_w4]
  have bk2_W5 : (((w4.setCell ⟨w.heap.size, 0, none⟩ (.slice a3 n c3)).setCell ⟨w.heap.size, 1, none⟩ (.int .i64 T)).setCell ⟨w.heap.size, 2, none⟩ (.int .i64 N)).cell? ⟨w.heap.size, 2, none⟩ = some (.int .i64 N) := by simp [go_sem, bk2_w4]
  have bkF_W5 : ∀ o, (((w4.setCell ⟨w.heap.size, 0, none⟩ (.slice a3 n c3)).setCell ⟨w.heap.size, 1, none⟩ (.int .i64 T)).setCell ⟨w.heap.size, 2, none⟩ (.int .i64 N)).frozen? ⟨w.heap.size, o, none⟩ = false := fun o => frz_set1 (frz_set1 (frz_set1 ((bkF_w4 o))))
  have bkL_W5 : w.heap.size < (((w4.setCell ⟨w.heap.size, 0, none⟩ (.slice a3 n c3)).setCell ⟨w.heap.size, 1, none⟩ (.int .i64 T)).setCell ⟨w.heap.size, 2, none⟩ (.int .i64 N)).heap.size := by simpa using bkL_w4
  have at0_W5 : (((w4.setCell ⟨w.heap.size, 0, none⟩ (.slice a3 n c3)).setCell ⟨w.heap.size, 1, none⟩ (.int .i64 T)).setCell ⟨w.heap.size, 2, none⟩ (.int .i64 N)).cell? ⟨w.heap.size + 1, 0, none⟩ = some (.bool ad.s) := cell_set1 (cell_set1 (cell_set1 (at0_w4) (by have := as_W1.out; have := sz_W1.out; have := as_W2.out; have := sz_W2.out; have := as_W3.out; have := sz_W3.out; have := sz_w4.out; omega)) (by have := as_W1.out; have := sz_W1.out; have := as_W2.out; have := sz_W2.out; have := as_W3.out; have := sz_W3.out; have := sz_w4.out; omega)) (by have := as_W1.out; have := sz_W1.out; have := as_W2.out; have := sz_W2.out; have := as_W3.out; have := sz_W3.out; have := sz_w4.out; omega)
  have at1_W5 : (((w4.setCell ⟨w.heap.size, 0, none⟩ (.slice a3 n c3)).setCell ⟨w.heap.size, 1, none⟩ (.int .i64 T)).setCell ⟨w.heap.size, 2, none⟩ (.int .i64 N)).cell? ⟨w.heap.size + 1, 1, none⟩ = some (.int .i64 ad.H.toInt) := cell_set1 (cell_set1 (cell_set1 (at1_w4) (by have := as_W1.out; have := sz_W1.out; have := as_W2.out; have := sz_W2.out; have := as_W3.out; have := sz_W3.out; have := sz_w4.out; omega)) (by have := as_W1.out; have := sz_W1.out; have := as_W2.out; have := sz_W2.out; have := as_W3.out; have := sz_W3.out; have := sz_w4.out; omega)) (by have := as_W1.out; have := sz_W1.out; have := as_W2.out; have := sz_W2.out; have := as_W3.out; have := sz_W3.out; have := sz_w4.out; omega)
  have at2_W5 : (((w4.setCell ⟨w.heap.size, 0, none⟩ (.slice a3 n c3)).setCell ⟨w.heap.size, 1, none⟩ (.int .i64 T)).setCell ⟨w.heap.size, 2, none⟩ (.int .i64 N)).cell? ⟨w.heap.size + 1, 2, none⟩ = some (.int .i64 ad.L.toInt) := cell_set1 (cell_set1 (cell_set1 (at2_w4) (by have := as_W1.out; have := sz_W1.out; have := as_W2.out; have := sz_W2.out; have := as_W3.out; have := sz_W3.out; have := sz_w4.out; omega)) (by have := as_W1.out; have := sz_W1.out; have := as_W2.out; have := sz_W2.out; have := as_W3.out; have := sz_W3.out; have := sz_w4.out; omega)) (by have := as_W1.out; have := sz_W1.out; have := as_W2.out; have := sz_W2.out; have := as_W3.out; have := sz_W3.out; have := sz_w4.out; omega)
  have atF_W5 : ∀ o, (((w4.setCell ⟨w.heap.size, 0, none⟩ (.slice a3 n c3)).setCell ⟨w.heap.size, 1, none⟩ (.int .i64 T)).setCell ⟨w.heap.size, 2, none⟩ (.int .i64 N)).frozen? ⟨w.heap.size + 1, o, none⟩ = false := fun o => frz_set1 (frz_set1 (frz_set1 ((atF_w4 o))))
  have atL_W5 : w.heap.size + 1 < (((w4.setCell ⟨w.heap.size, 0, none⟩ (.slice a3 n c3)).setCell ⟨w.heap.size, 1, none⟩ (.int .i64 T)).setCell ⟨w.heap.size, 2, none⟩ (.int .i64 N)).heap.size := by simpa using atL_w4
  have rs0_W5 : (((w4.setCell ⟨w.heap.size, 0, none⟩ (.slice a3 n c3)).setCell ⟨w.heap.size, 1, none⟩ (.int .i64 T)).setCell ⟨w.heap.size, 2, none⟩ (.int .i64 N)).cell? ⟨w.heap.size + 1 + 1, 0, none⟩ = some (.slice none 0 0) := cell_set1 (cell_set1 (cell_set1 (rs0_w4) (by have := as_W1.out; have := sz_W1.out; have := as_W2.out; have := sz_W2.out; have := as_W3.out; have := sz_W3.out; have := sz_w4.out; omega)) (by have := as_W1.out; have := sz_W1.out; have := as_W2.out; have := sz_W2.out; have := as_W3.out; have := sz_W3.out; have := sz_w4.out; omega)) (by have := as_W1.out; have := sz_W1.out; have := as_W2.out; have := sz_W2.out; have := as_W3.out; have := sz_W3.out; have := sz_w4.out; omega)
  have rs1_W5 : (((w4.setCell ⟨w.heap.size, 0, none⟩ (.slice a3 n c3)).setCell ⟨w.heap.size, 1, none⟩ (.int .i64 T)).setCell ⟨w.heap.size, 2, none⟩ (.int .i64 N)).cell? ⟨w.heap.size + 1 + 1, 1, none⟩ = some (.int .i64 0) := cell_set1 (cell_set1 (cell_set1 (rs1_w4) (by have := as_W1.out; have := sz_W1.out; have := as_W2.out; have := sz_W2.out; have := as_W3.out; have := sz_W3.out; have := sz_w4.out; omega)) (by have := as_W1.out; have := sz_W1.out; have := as_W2.out; have := sz_W2.out; have := as_W3.out; have := sz_W3.out; have := sz_w4.out; omega)) (by have := as_W1.out; have := sz_W1.out; have := as_W2.out; have := sz_W2.out; have := as_W3.out; have := sz_W3.out; have := sz_w4.out; omega)
  have rs2_W5 : (((w4.setCell ⟨w.heap.size, 0, none⟩ (.slice a3 n c3)).setCell ⟨w.heap.size, 1, none⟩ (.int .i64 T)).setCell ⟨w.heap.size, 2, none⟩ (.int .i64 N)).cell? ⟨w.heap.size + 1 + 1, 2, none⟩ = some (.int .i64 0) := cell_set1 (cell_set1 (cell_set1 (rs2_w4) (by have := as_W1.out; have := sz_W1.out; have := as_W2.out; have := sz_W2.out; have := as_W3.out; have := sz_W3.out; have := sz_w4.out; omega)) (by have := as_W1.out; have := sz_W1.out; have := as_W2.out; have := sz_W2.out; have := as_W3.out; have := sz_W3.out; have := sz_w4.out; omega)) (by have := as_W1.out; have := sz_W1.out; have := as_W2.out; have := sz_W2.out; have := as_W3.out; have := sz_W3.out; have := sz_w4.out; omega)
  have rsF_W5 : ∀ o, (((w4.setCell ⟨w.heap.size, 0, none⟩ (.slice a3 n c3)).setCell ⟨w.heap.size, 1, none⟩ (.int .i64 T)).setCell ⟨w.heap.size, 2, none⟩ (.int .i64 N)).frozen? ⟨w.heap.size + 1 + 1, o, none⟩ = false := fun o => frz_set1 (frz_set1 (frz_set1 ((rsF_w4 o))))
  have rsL_W5 : w.heap.size + 1 + 1 < (((w4.setCell ⟨w.heap.size, 0, none⟩ (.slice a3 n c3)).setCell ⟨w.heap.size, 1, none⟩ (.int .i64 T)).setCell ⟨w.heap.size, 2, none⟩ (.int .i64 N)).heap.size := by simpa using rsL_w4
  have oL_W5 : Hid (OwnG KLs 47 (((w4.setCell ⟨w.heap.size, 0, none⟩ (.slice a3 n c3)).setCell ⟨w.heap.size, 1, none⟩ (.int .i64 T)).setCell ⟨w.heap.size, 2, none⟩ (.int .i64 N)) (W3.heap.size) (.slice a3 n c3) (ls)) := hidP (OwnG.grown (OwnG.grown (OwnG.grown (oL_w4.out) (grown_cellG _ _ _ _) (OwnG.ne_of oL_w4.out (by have := as_W1.out; have := sz_W1.out; have := as_W2.out; have := sz_W2.out; have := as_W3.out; have := sz_W3.out; have := sz_w4.out; omega))) (grown_cellG _ _ _ _) (OwnG.ne_of oL_w4.out (by have := as_W1.out; have := sz_W1.out; have := as_W2.out; have := sz_W2.out; have := as_W3.out; have := sz_W3.out; have := sz_w4.out; omega))) (grown_cellG _ _ _ _) (OwnG.ne_of oL_w4.out (by have := as_W1.out; have := sz_W1.out; have := as_W2.out; have := sz_W2.out; have := as_W3.out; have := sz_W3.out; have := sz_w4.out; omega)))
  have acc_W5 : Hid (Below w.heap.size w (((w4.setCell ⟨w.heap.size, 0, none⟩ (.slice a3 n c3)).setCell ⟨w.heap.size, 1, none⟩ (.int .i64 T)).setCell ⟨w.heap.size, 2, none⟩ (.int .i64 N))) := hidP (Below.setCell (Below.setCell (Below.setCell (acc_w4.out) (by have := as_W1.out; have := sz_W1.out; have := as_W2.out; have := sz_W2.out; have := as_W3.out; have := sz_W3.out; have := sz_w4.out; try dsimp only; omega) _) (by have := as_W1.out; have := sz_W1.out; have := as_W2.out; have := sz_W2.out; have := as_W3.out; have := sz_W3.out; have := sz_w4.out; try dsimp only; omega) _) (by have := as_W1.out; have := sz_W1.out; have := as_W2.out; have := sz_W2.out; have := as_W3.out; have := sz_W3.out; have := sz_w4.out; try dsimp only; omega) _)
  have sz_W5 : Hid ((((w4.setCell ⟨w.heap.size, 0, none⟩ (.slice a3 n c3)).setCell ⟨w.heap.size, 1, none⟩ (.int .i64 T)).setCell ⟨w.heap.size, 2, none⟩ (.int .i64 N)).heap.size = w4.heap.size) := hidP (by simp)
  generalize ((w4.setCell ⟨w.heap.size, 0, none⟩ (.slice a3 n c3)).setCell ⟨w.heap.size, 1, none⟩ (.int .i64 T)).setCell ⟨w.heap.size, 2, none⟩ (.int .i64 N) = W5 at *
  clear bk0_w4 bk1_w4 bk2_w4 bkF_w4 bkL_w4 at0_w4 at1_w4 at2_w4 atF_w4 atL_w4 rs0_w4 rs1_w4 rs2_w4 rsF_w4 rsL_w4 oL_w4 acc_w4
  refine (HPh.out _ a3 c3 oL_W5.out.row).mono ?_
  rintro e w6 ⟨rfl, hb6⟩
  have bk0_w6 := (hb6.cell bkL_W5).trans bk0_W5
  have bk1_w6 := (hb6.cell bkL_W5).trans bk1_W5
  have bk2_w6 := (hb6.cell bkL_W5).trans bk2_W5
  have bkF_w6 : ∀ o, w6.frozen? ⟨w.heap.size, o, none⟩ = false := fun o => (hb6.frozen bkL_W5).trans (bkF_W5 o)
  have bkL_w6 : w.heap.size < w6.heap.size := Nat.lt_of_lt_of_le bkL_W5 hb6.size
  have at0_w6 := (hb6.cell atL_W5).trans at0_W5
  have at1_w6 := (hb6.cell atL_W5).trans at1_W5
  have at2_w6 := (hb6.cell atL_W5).trans at2_W5
  have atF_w6 : ∀ o, w6.frozen? ⟨w.heap.size + 1, o, none⟩ = false := fun o => (hb6.frozen atL_W5).trans (atF_W5 o)
  have atL_w6 : w.heap.size + 1 < w6.heap.size := Nat.lt_of_lt_of_le atL_W5 hb6.size
  have rs0_w6 := (hb6.cell rsL_W5).trans rs0_W5
  have rs1_w6 := (hb6.cell rsL_W5).trans rs1_W5
  have rs2_w6 := (hb6.cell rsL_W5).trans rs2_W5
  have rsF_w6 : ∀ o, w6.frozen? ⟨w.heap.size + 1 + 1, o, none⟩ = false := fun o => (hb6.frozen rsL_W5).trans (rsF_W5 o)
  have rsL_w6 : w.heap.size + 1 + 1 < w6.heap.size := Nat.lt_of_lt_of_le rsL_W5 hb6.size
  have oL_w6 := hidP (OwnG.later oL_W5.out hb6)
  have acc_w6 := hidP (acc_W5.out.trans (hb6.mono acc_W5.out.size))
  have sz_w6 : Hid (W5.heap.size ≤ w6.heap.size) := hidP hb6.size
  clear hb6 bk0_W5 bk1_W5 bk2_W5 bkF_W5 bkL_W5 at0_W5 at1_W5 at2_W5 atF_W5 atL_W5 rs0_W5 rs1_W5 rs2_W5 rsF_W5 rsL_W5 oL_W5 acc_W5
  go_wp2_with fail
  have bk0_W7 : (w6.setCell ⟨w.heap.size, 1, none⟩ (.int .i64 (T + 1))).cell? ⟨w.heap.size, 0, none⟩ = some (.slice a3 n c3) := by simp [go_sem, bk0_w6]
  have bk1_W7 : (w6.setCell ⟨w.heap.size, 1, none⟩ (.int .i64 (T + 1))).cell? ⟨w.heap.size, 1, none⟩ = some (.int .i64 (T + 1)) := by simp [go_sem, bk1_w6]
  have bk2_W7 : (w6.setCell ⟨w.heap.size, 1, none⟩ (.int .i64 (T + 1))).cell? ⟨w.heap.size, 2, none⟩ = some (.int .i64 N) := by simp [go_sem, bk2_w6]
  have bkF_W7 : ∀ o, (w6.setCell ⟨w.heap.size, 1, none⟩ (.int .i64 (T + 1))).frozen? ⟨w.heap.size, o, none⟩ = false := fun o => frz_set1 ((bkF_w6 o))
  have bkL_W7 : w.heap.size < (w6.setCell ⟨w.heap.size, 1, none⟩ (.int .i64 (T + 1))).heap.size := by simpa using bkL_w6
  have at0_W7 : (w6.setCell ⟨w.heap.size, 1, none⟩ (.int .i64 (T + 1))).cell? ⟨w.heap.size + 1, 0, none⟩ = some (.bool ad.s) := cell_set1 (at0_w6) (by have := as_W1.out; have := sz_W1.out; have := as_W2.out; have := sz_W2.out; have := as_W3.out; have := sz_W3.out; have := sz_w4.out; have := sz_W5.out; have := sz_w6.out; omega)
  have at1_W7 : (w6.setCell ⟨w.heap.size, 1, none⟩ (.int .i64 (T + 1))).cell? ⟨w.heap.size + 1, 1, none⟩ = some (.int .i64 ad.H.toInt) := cell_set1 (at1_w6) (by have := as_W1.out; have := sz_W1.out; have := as_W2.out; have := sz_W2.out; have := as_W3.out; have := sz_W3.out; have := sz_w4.out; have := sz_W5.out; have := sz_w6.out; omega)
  have at2_W7 : (w6.setCell ⟨w.heap.size, 1, none⟩ (.int .i64 (T + 1))).cell? ⟨w.heap.size + 1, 2, none⟩ = some (.int .i64 ad.L.toInt) := cell_set1 (at2_w6) (by have := as_W1.out; have := sz_W1.out; have := as_W2.out; have := sz_W2.out; have := as_W3.out; have := sz_W3.out; have := sz_w4.out; have := sz_W5.out; have := sz_w6.out; omega)
  have atF_W7 : ∀ o, (w6.setCell ⟨w.heap.size, 1, none⟩ (.int .i64 (T + 1))).frozen? ⟨w.heap.size + 1, o, none⟩ = false := fun o => frz_set1 ((atF_w6 o))
  have atL_W7 : w.heap.size + 1 < (w6.setCell ⟨w.heap.size, 1, none⟩ (.int .i64 (T + 1))).heap.size := by simpa using atL_w6
  have rs0_W7 : (w6.setCell ⟨w.heap.size, 1, none⟩ (.int .i64 (T + 1))).cell? ⟨w.heap.size + 1 + 1, 0, none⟩ = some (.slice none 0 0) := cell_set1 (rs0_w6) (by have := as_W1.out; have := sz_W1.out; have := as_W2.out; have := sz_W2.out; have := as_W3.out; have := sz_W3.out; have := sz_w4.out; have := sz_W5.out; have := sz_w6.out; omega)
  have rs1_W7 : (w6.setCell ⟨w.heap.size, 1, none⟩ (.int .i64 (T + 1))).cell? ⟨w.heap.size + 1 + 1, 1, none⟩ = some (.int .i64 0) := cell_set1 (rs1_w6) (by have := as_W1.out; have := sz_W1.out; have := as_W2.out; have := sz_W2.out; have := as_W3.out; have := sz_W3.out; have := sz_w4.out; have := sz_W5.out; have := sz_w6.out; omega)
  have rs2_W7 : (w6.setCell ⟨w.heap.size, 1, none⟩ (.int .i64 (T + 1))).cell? ⟨w.heap.size + 1 + 1, 2, none⟩ = some (.int .i64 0) := cell_set1 (rs2_w6) (by have := as_W1.out; have := sz_W1.out; have := as_W2.out; have := sz_W2.out; have := as_W3.out; have := sz_W3.out; have := sz_w4.out; have := sz_W5.out; have := sz_w6.out; omega)
  have rsF_W7 : ∀ o, (w6.setCell ⟨w.heap.size, 1, none⟩ (.int .i64 (T + 1))).frozen? ⟨w.heap.size + 1 + 1, o, none⟩ = false := fun o => frz_set1 ((rsF_w6 o))
  have rsL_W7 : w.heap.size + 1 + 1 < (w6.setCell ⟨w.heap.size, 1, none⟩ (.int .i64 (T + 1))).heap.size := by simpa using rsL_w6
  have oL_W7 : Hid (OwnG KLs 47 (w6.setCell ⟨w.heap.size, 1, none⟩ (.int .i64 (T + 1))) (W3.heap.size) (.slice a3 n c3) (ls)) := hidP (OwnG.grown (oL_w6.out) (grown_cellG _ _ _ _) (OwnG.ne_of oL_w6.out (by have := as_W1.out; have := sz_W1.out; have := as_W2.out; have := sz_W2.out; have := as_W3.out; have := sz_W3.out; have := sz_w4.out; have := sz_W5.out; have := sz_w6.out; omega)))
  have acc_W7 : Hid (Below w.heap.size w (w6.setCell ⟨w.heap.size, 1, none⟩ (.int .i64 (T + 1)))) := hidP (Below.setCell (acc_w6.out) (by have := as_W1.out; have := sz_W1.out; have := as_W2.out; have := sz_W2.out; have := as_W3.out; have := sz_W3.out; have := sz_w4.out; have := sz_W5.out; have := sz_w6.out; try dsimp only; omega) _)
  have sz_W7 : Hid ((w6.setCell ⟨w.heap.size, 1, none⟩ (.int .i64 (T + 1))).heap.size = w6.heap.size) := hidP (by simp)
  generalize w6.setCell ⟨w.heap.size, 1, none⟩ (.int .i64 (T + 1)) = W7 at *
  clear bk0_w6 bk1_w6 bk2_w6 bkF_w6 bkL_w6 at0_w6 at1_w6 at2_w6 atF_w6 atL_w6 rs0_w6 rs1_w6 rs2_w6 rsF_w6 rsL_w6 oL_w6 acc_w6
  have hv8 : (W7.alloc (.cells #[.bool ad.s, .int .i64 ad.H.toInt, .int .i64 ad.L.toInt, .string own, .int .i64 (T + 1), .int .i64 (N + span)] 47)).heap[W7.heap.size]? = some (.cells (KLs.cs ⟨ad, own, T + 1, N + span⟩).toArray 47) := heap_alloc_new W7 _
  have ab_W8 := alloc_below W7 (.cells #[.bool ad.s, .int .i64 ad.H.toInt, .int .i64 ad.L.toInt, .string own, .int .i64 (T + 1), .int .i64 (N + span)] 47)
  have as_W8 : Hid ((W7.alloc (.cells #[.bool ad.s, .int .i64 ad.H.toInt, .int .i64 ad.L.toInt, .string own, .int .i64 (T + 1), .int .i64 (N + span)] 47)).heap.size = W7.heap.size + 1) := hidP (by simp)
  generalize W7.alloc (.cells #[.bool ad.s, .int .i64 ad.H.toInt, .int .i64 ad.L.toInt, .string own, .int .i64 (T + 1), .int .i64 (N + span)] 47) = W8 at *
  have bk0_W8 := (ab_W8.cell bkL_W7).trans bk0_W7
  have bk1_W8 := (ab_W8.cell bkL_W7).trans bk1_W7
  have bk2_W8 := (ab_W8.cell bkL_W7).trans bk2_W7
  have bkF_W8 : ∀ o, W8.frozen? ⟨w.heap.size, o, none⟩ = false := fun o => (ab_W8.frozen bkL_W7).trans (bkF_W7 o)
  have bkL_W8 : w.heap.size < W8.heap.size := Nat.lt_of_lt_of_le bkL_W7 ab_W8.size
  have at0_W8 := (ab_W8.cell atL_W7).trans at0_W7
  have at1_W8 := (ab_W8.cell atL_W7).trans at1_W7
  have at2_W8 := (ab_W8.cell atL_W7).trans at2_W7
  have atF_W8 : ∀ o, W8.frozen? ⟨w.heap.size + 1, o, none⟩ = false := fun o => (ab_W8.frozen atL_W7).trans (atF_W7 o)
  have atL_W8 : w.heap.size + 1 < W8.heap.size := Nat.lt_of_lt_of_le atL_W7 ab_W8.size
  have rs0_W8 := (ab_W8.cell rsL_W7).trans rs0_W7
  have rs1_W8 := (ab_W8.cell rsL_W7).trans rs1_W7
  have rs2_W8 := (ab_W8.cell rsL_W7).trans rs2_W7
  have rsF_W8 : ∀ o, W8.frozen? ⟨w.heap.size + 1 + 1, o, none⟩ = false := fun o => (ab_W8.frozen rsL_W7).trans (rsF_W7 o)
  have rsL_W8 : w.heap.size + 1 + 1 < W8.heap.size := Nat.lt_of_lt_of_le rsL_W7 ab_W8.size
  have oL_W8 := hidP (OwnG.later oL_W7.out ab_W8)
  have acc_W8 := hidP (acc_W7.out.trans (ab_W8.mono acc_W7.out.size))
  have sz_W8 : Hid (W7.heap.size ≤ W8.heap.size) := hidP ab_W8.size
  clear ab_W8 bk0_W7 bk1_W7 bk2_W7 bkF_W7 bkL_W7 at0_W7 at1_W7 at2_W7 atF_W7 atL_W7 rs0_W7 rs1_W7 rs2_W7 rsF_W7 rsL_W7 oL_W7 acc_W7
  rw [sz_W7.out] at hv8
  refine (insert_any a3 n c3 W3.heap.size w6.heap.size I ls ⟨ad, own, T + 1, N + span⟩ W8 HN.out hI hl oL_W8.out hv8 (fun k hk e => by have h5 := lhL.out k hk; have := as_W1.out; have := sz_W1.out; have := as_W2.out; have := sz_W2.out; have := as_W3.out; have := sz_W3.out; have := sz_w4.out; have := sz_W5.out; have := sz_w6.out; have := sz_W7.out; have := as_W8.out; have := sz_W8.out; omega) (by have := as_W1.out; have := sz_W1.out; have := as_W2.out; have := sz_W2.out; have := as_W3.out; have := sz_W3.out; have := sz_w4.out; have := sz_W5.out; have := sz_w6.out; have := sz_W7.out; have := as_W8.out; have := sz_W8.out; omega)).mono ?_
  rintro e w9 ⟨a9, c9, rfl, oI, hg9⟩
  have OI := hidP oI
  clear oI hv8
  have nebk : ∀ k, (Value.slice a3 n c3).ownBlock = some k → k ≠ w.heap.size := fun k hk => by have h5 := lhL.out k hk; have := as_W1.out; have := sz_W1.out; have := as_W2.out; have := sz_W2.out; have := as_W3.out; have := sz_W3.out; have := sz_w4.out; have := sz_W5.out; have := sz_w6.out; have := sz_W7.out; have := as_W8.out; have := sz_W8.out; omega
  have bk0_w9 := cell_grown hg9 bk0_W8 nebk
  have bk1_w9 := cell_grown hg9 bk1_W8 nebk
  have bk2_w9 := cell_grown hg9 bk2_W8 nebk
  have bkF_w9 : ∀ o, w9.frozen? ⟨w.heap.size, o, none⟩ = false := fun o => frz_grownZ hg9 bkL_W8 (bkF_W8 o) nebk
  have bkL_w9 : w.heap.size < w9.heap.size := Nat.lt_of_lt_of_le bkL_W8 hg9.size
  have neat : ∀ k, (Value.slice a3 n c3).ownBlock = some k → k ≠ w.heap.size + 1 := fun k hk => by have h5 := lhL.out k hk; have := as_W1.out; have := sz_W1.out; have := as_W2.out; have := sz_W2.out; have := as_W3.out; have := sz_W3.out; have := sz_w4.out; have := sz_W5.out; have := sz_w6.out; have := sz_W7.out; have := as_W8.out; have := sz_W8.out; omega
  have at0_w9 := cell_grown hg9 at0_W8 neat
  have at1_w9 := cell_grown hg9 at1_W8 neat
  have at2_w9 := cell_grown hg9 at2_W8 neat
  have atF_w9 : ∀ o, w9.frozen? ⟨w.heap.size + 1, o, none⟩ = false := fun o => frz_grownZ hg9 atL_W8 (atF_W8 o) neat
  have atL_w9 : w.heap.size + 1 < w9.heap.size := Nat.lt_of_lt_of_le atL_W8 hg9.size
  have ners : ∀ k, (Value.slice a3 n c3).ownBlock = some k → k ≠ w.heap.size + 1 + 1 := fun k hk => by have h5 := lhL.out k hk; have := as_W1.out; have := sz_W1.out; have := as_W2.out; have := sz_W2.out; have := as_W3.out; have := sz_W3.out; have := sz_w4.out; have := sz_W5.out; have := sz_w6.out; have := sz_W7.out; have := as_W8.out; have := sz_W8.out; omega
  have rs0_w9 := cell_grown hg9 rs0_W8 ners
  have rs1_w9 := cell_grown hg9 rs1_W8 ners
  have rs2_w9 := cell_grown hg9 rs2_W8 ners
  have rsF_w9 : ∀ o, w9.frozen? ⟨w.heap.size + 1 + 1, o, none⟩ = false := fun o => frz_grownZ hg9 rsL_W8 (rsF_W8 o) ners
  have rsL_w9 : w.heap.size + 1 + 1 < w9.heap.size := Nat.lt_of_lt_of_le rsL_W8 hg9.size
  have oL_w9 := hidP (OI.out)
  have acc_w9 := hidP (Below.grown acc_W8.out hg9 acc_W8.out.size (fun k hk => by have h5 := lhL.out k hk; have := as_W1.out; have := sz_W1.out; have := as_W2.out; have := sz_W2.out; have := as_W3.out; have := sz_W3.out; have := sz_w4.out; have := sz_W5.out; have := sz_w6.out; have := sz_W7.out; have := as_W8.out; have := sz_W8.out; omega))
  have sz_w9 : Hid (W8.heap.size ≤ w9.heap.size) := hidP hg9.size
  clear hg9 bk0_W8 bk1_W8 bk2_W8 bkF_W8 bkL_W8 nebk at0_W8 at1_W8 at2_W8 atF_W8 atL_W8 neat rs0_W8 rs1_W8 rs2_W8 rsF_W8 rsL_W8 ners oL_W8 acc_W8
  clear OI
  go_wp2_with fail
  have bk0_W10 : (w9.setCell ⟨w.heap.size, 0, none⟩ (.slice a9 (n + 1) c9)).cell? ⟨w.heap.size, 0, none⟩ = some (.slice a9 (n + 1) c9) := by simp [go_sem, bk0_w9]
  have bk1_W10 : (w9.setCell ⟨w.heap.size, 0, none⟩ (.slice a9 (n + 1) c9)).cell? ⟨w.heap.size, 1, none⟩ = some (.int .i64 (T + 1)) := by simp [go_sem, bk1_w9]
  have bk2_W10 : (w9.setCell ⟨w.heap.size, 0, none⟩ (.slice a9 (n + 1) c9)).cell? ⟨w.heap.size, 2, none⟩ = some (.int .i64 N) := by simp [go_sem, bk2_w9]
  have bkF_W10 : ∀ o, (w9.setCell ⟨w.heap.size, 0, none⟩ (.slice a9 (n + 1) c9)).frozen? ⟨w.heap.size, o, none⟩ = false := fun o => frz_set1 ((bkF_w9 o))
  have bkL_W10 : w.heap.size < (w9.setCell ⟨w.heap.size, 0, none⟩ (.slice a9 (n + 1) c9)).heap.size := by simpa using bkL_w9
  have at0_W10 : (w9.setCell ⟨w.heap.size, 0, none⟩ (.slice a9 (n + 1) c9)).cell? ⟨w.heap.size + 1, 0, none⟩ = some (.bool ad.s) := cell_set1 (at0_w9) (by have := as_W1.out; have := sz_W1.out; have := as_W2.out; have := sz_W2.out; have := as_W3.out; have := sz_W3.out; have := sz_w4.out; have := sz_W5.out; have := sz_w6.out; have := sz_W7.out; have := as_W8.out; have := sz_W8.out; have := sz_w9.out; omega)
  have at1_W10 : (w9.setCell ⟨w.heap.size, 0, none⟩ (.slice a9 (n + 1) c9)).cell? ⟨w.heap.size + 1, 1, none⟩ = some (.int .i64 ad.H.toInt) := cell_set1 (at1_w9) (by have := as_W1.out; have := sz_W1.out; have := as_W2.out; have := sz_W2.out; have := as_W3.out; have := sz_W3.out; have := sz_w4.out; have := sz_W5.out; have := sz_w6.out; have := sz_W7.out; have := as_W8.out; have := sz_W8.out; have := sz_w9.out; omega)
  have at2_W10 : (w9.setCell ⟨w.heap.size, 0, none⟩ (.slice a9 (n + 1) c9)).cell? ⟨w.heap.size + 1, 2, none⟩ = some (.int .i64 ad.L.toInt) := cell_set1 (at2_w9) (by have := as_W1.out; have := sz_W1.out; have := as_W2.out; have := sz_W2.out; have := as_W3.out; have := sz_W3.out; have := sz_w4.out; have := sz_W5.out; have := sz_w6.out; have := sz_W7.out; have := as_W8.out; have := sz_W8.out; have := sz_w9.out; omega)
  have atF_W10 : ∀ o, (w9.setCell ⟨w.heap.size, 0, none⟩ (.slice a9 (n + 1) c9)).frozen? ⟨w.heap.size + 1, o, none⟩ = false := fun o => frz_set1 ((atF_w9 o))
  have atL_W10 : w.heap.size + 1 < (w9.setCell ⟨w.heap.size, 0, none⟩ (.slice a9 (n + 1) c9)).heap.size := by simpa using atL_w9
  have rs0_W10 : (w9.setCell ⟨w.heap.size, 0, none⟩ (.slice a9 (n + 1) c9)).cell? ⟨w.heap.size + 1 + 1, 0, none⟩ = some (.slice none 0 0) := cell_set1 (rs0_w9) (by have := as_W1.out; have := sz_W1.out; have := as_W2.out; have := sz_W2.out; have := as_W3.out; have := sz_W3.out; have := sz_w4.out; have := sz_W5.out; have := sz_w6.out; have := sz_W7.out; have := as_W8.out; have := sz_W8.out; have := sz_w9.out; omega)
  have rs1_W10 : (w9.setCell ⟨w.heap.size, 0, none⟩ (.slice a9 (n + 1) c9)).cell? ⟨w.heap.size + 1 + 1, 1, none⟩ = some (.int .i64 0) := cell_set1 (rs1_w9) (by have := as_W1.out; have := sz_W1.out; have := as_W2.out; have := sz_W2.out; have := as_W3.out; have := sz_W3.out; have := sz_w4.out; have := sz_W5.out; have := sz_w6.out; have := sz_W7.out; have := as_W8.out; have := sz_W8.out; have := sz_w9.out; omega)
  have rs2_W10 : (w9.setCell ⟨w.heap.size, 0, none⟩ (.slice a9 (n + 1) c9)).cell? ⟨w.heap.size + 1 + 1, 2, none⟩ = some (.int .i64 0) := cell_set1 (rs2_w9) (by have := as_W1.out; have := sz_W1.out; have := as_W2.out; have := sz_W2.out; have := as_W3.out; have := sz_W3.out; have := sz_w4.out; have := sz_W5.out; have := sz_w6.out; have := sz_W7.out; have := as_W8.out; have := sz_W8.out; have := sz_w9.out; omega)
  have rsF_W10 : ∀ o, (w9.setCell ⟨w.heap.size, 0, none⟩ (.slice a9 (n + 1) c9)).frozen? ⟨w.heap.size + 1 + 1, o, none⟩ = false := fun o => frz_set1 ((rsF_w9 o))
  have rsL_W10 : w.heap.size + 1 + 1 < (w9.setCell ⟨w.heap.size, 0, none⟩ (.slice a9 (n + 1) c9)).heap.size := by simpa using rsL_w9
  have oL_W10 : Hid (OwnG KLs 47 (w9.setCell ⟨w.heap.size, 0, none⟩ (.slice a9 (n + 1) c9)) (W3.heap.size) (.slice a9 (n + 1) c9) (ls.take I ++ [⟨ad, own, T + 1, N + span⟩] ++ ls.drop I)) := hidP (OwnG.grown (oL_w9.out) (grown_cellG _ _ _ _) (OwnG.ne_of oL_w9.out (by have := as_W1.out; have := sz_W1.out; have := as_W2.out; have := sz_W2.out; have := as_W3.out; have := sz_W3.out; have := sz_w4.out; have := sz_W5.out; have := sz_w6.out; have := sz_W7.out; have := as_W8.out; have := sz_W8.out; have := sz_w9.out; omega)))
  have acc_W10 : Hid (Below w.heap.size w (w9.setCell ⟨w.heap.size, 0, none⟩ (.slice a9 (n + 1) c9))) := hidP (Below.setCell (acc_w9.out) (by have := as_W1.out; have := sz_W1.out; have := as_W2.out; have := sz_W2.out; have := as_W3.out; have := sz_W3.out; have := sz_w4.out; have := sz_W5.out; have := sz_w6.out; have := sz_W7.out; have := as_W8.out; have := sz_W8.out; have := sz_w9.out; try dsimp only; omega) _)
  have sz_W10 : Hid ((w9.setCell ⟨w.heap.size, 0, none⟩ (.slice a9 (n + 1) c9)).heap.size = w9.heap.size) := hidP (by simp)
  generalize w9.setCell ⟨w.heap.size, 0, none⟩ (.slice a9 (n + 1) c9) = W10 at *
  clear bk0_w9 bk1_w9 bk2_w9 bkF_w9 bkL_w9 at0_w9 at1_w9 at2_w9 atF_w9 atL_w9 rs0_w9 rs1_w9 rs2_w9 rsF_w9 rsL_w9 oL_w9 acc_w9
  go_region
  all_goals go_wp2_with fail
  refine bodyPost_ret (v := .tuple #[.agg #[.slice a9 (n + 1) c9, .int .i64 (T + 1), .int .i64 N], .int .i64 (T + 1), .int .i64 0]) (by simp [results, Tryz.results8, go_sem, rs0_W10, rs1_W10, rs2_W10]) rfl ⟨_, _, rfl, ?_, ?_⟩
  · refine OwnG.mono (B := W3.heap.size) ?_ (by have := as_W1.out; have := sz_W1.out; have := as_W2.out; have := sz_W2.out; have := as_W3.out; have := sz_W3.out; have := sz_w4.out; have := sz_W5.out; have := sz_w6.out; have := sz_W7.out; have := as_W8.out; have := sz_W8.out; have := sz_w9.out; have := sz_W10.out; omega)
    refine OwnG.drewG ?_
    iterate 3 (with_reducible refine OwnG.grown ?_ (grown_cellG _ _ _ _) ?_; rotate_left; (focus (exact OwnG.ne_of oL_W10.out (by have := as_W1.out; have := sz_W1.out; have := as_W2.out; have := sz_W2.out; have := as_W3.out; have := sz_W3.out; have := sz_w4.out; have := sz_W5.out; have := sz_w6.out; have := sz_W7.out; have := as_W8.out; have := sz_W8.out; have := sz_w9.out; have := sz_W10.out; omega))))
    with_reducible exact oL_W10.out
  · refine Below.drew ?_; repeat (with_reducible refine Below.setCell ?_ ?_ _; rotate_left; (focus (first | (simp; done) | (simp; omega))))
    exact acc_W10.out

end Go.Proofs.YtafbekjpmjjlpaaGreatDoor
