/-
  What granted_card needs, part 3.
-/
import Derived.Test.YtddnofonodgneaaGreatDoorZG2
namespace Go.Proofs.YtddnofonodgneaaGreatDoor
open Go.RowKit

theorem cell_set1 {w : World} {b o x o' : Nat} {u v : Value} (h : w.cell? ⟨b, o, none⟩ = some u) (hne : b ≠ x) : (w.setCell ⟨x, o', none⟩ v).cell? ⟨b, o, none⟩ = some u := by
  rw [World.cell?_of_block (w := w) ((grown_cellG w x o' v).block b (World.block_lt_of_cell? w _ h) (fun e => hne (by simpa using e)))]
  exact h
theorem frz_set1 {w : World} {b o x o' : Nat} {v : Value} (h : w.frozen? ⟨b, o, none⟩ = false) : (w.setCell ⟨x, o', none⟩ v).frozen? ⟨b, o, none⟩ = false := by
  simpa [go_sem] using h
theorem own_some {α : Type} {K : Kd α} {t : TypeId} {w : World} {B n c : Nat} {a : Option Addr} {ps : List α} (h : OwnG K t w B (.slice a n c) ps) (hn : 0 < n) : ∃ g, a = some ⟨g, 0, none⟩ := by
  rcases h.2 with ⟨hv, _⟩ | ⟨g, cap', cur, hv, _⟩
  · simp at hv; omega
  · simp at hv; exact ⟨g, hv.1⟩
theorem cell_grown {w w' : World} {r : Option Nat} {b o : Nat} {u : Value} (hg : w.grownBy w' r) (h : w.cell? ⟨b, o, none⟩ = some u) (hne : ∀ k, r = some k → k ≠ b) : w'.cell? ⟨b, o, none⟩ = some u :=
  (World.cell?_of_block (w := w) (hg.block b (World.block_lt_of_cell? w _ h) (fun e => hne b e.symm rfl))).trans h
theorem frz_grown {w w' : World} {r : Option Nat} {b o : Nat} (hg : w.grownBy w' r) (hb : b < w.heap.size) (h : w.frozen? ⟨b, o, none⟩ = false) (hne : ∀ k, r = some k → k ≠ b) : w'.frozen? ⟨b, o, none⟩ = false :=
  (World.frozen?_of_block (w := w) (hg.block b hb (fun e => hne b e.symm rfl))).trans h

set_option maxRecDepth 10000 in
set_option maxHeartbeats 4000000 in
theorem iRel_no (a : Option Addr) (n c : Nat) (T N : Int) (ls : List Ls) (ad : Ad) (tk : Int) (w : World) (hn : n = ls.length) (hB : RowG KLs w a ls) (hl : n ≤ 1048576) (x : Int) (HP : ∀ W a c, RowG KLs W a ls → Calls Tryz.prog 35 #[.agg #[.slice a n c, .int .i64 T, .int .i64 N], .agg #[.bool ad.s, .int .i64 ad.H.toInt, .int .i64 ad.L.toInt], .int .i64 tk] W fun e w' => e = .returned (.tuple #[.int .i64 0, .iface 89 (.agg #[.int .i64 x])]) ∧ Below W.heap.size W w') (hg : GlobE w) :
    Calls Tryz.prog 12 #[.agg #[.slice a n c, .int .i64 T, .int .i64 N], .agg #[.bool ad.s, .int .i64 ad.H.toInt, .int .i64 ad.L.toInt], .int .i64 tk] w fun e w' => ∃ a' c', e = .returned (.tuple #[.agg #[.slice a' n c', .int .i64 T, .int .i64 N], .int .i64 x]) ∧ OwnG KLs 35 w' w.heap.size (.slice a' n c') (ls) ∧ Below w.heap.size w w' := by
  have HOw := hidP (fun W h => ownBook_any a n c T N ls W hn (hB.later h) hl)
  have HPh := hidP HP
  have HN := hidP hn
  clear hB hn HP
  have HG := hidP hg
  clear hg
  go_enter Tryz.func12, Tryz.ntmps12
  go_wp2_with fail
  obtain ⟨bk0_W1, bk1_W1, bk2_W1⟩ := box3B w 26 (.slice a n c) (.int .i64 T) (.int .i64 N)
  have bkF_W1 : ∀ o, (w.alloc (.cells #[.slice a n c, .int .i64 T, .int .i64 N] 26)).frozen? ⟨w.heap.size, o, none⟩ = false := fun o => by simp [go_sem]
  have bkL_W1 : w.heap.size < (w.alloc (.cells #[.slice a n c, .int .i64 T, .int .i64 N] 26)).heap.size := by simp
  have ab_W1 := alloc_below w (.cells #[.slice a n c, .int .i64 T, .int .i64 N] 26)
  have as_W1 : Hid ((w.alloc (.cells #[.slice a n c, .int .i64 T, .int .i64 N] 26)).heap.size = w.heap.size + 1) := hidP (by simp)
  generalize w.alloc (.cells #[.slice a n c, .int .i64 T, .int .i64 N] 26) = W1 at *
  have acc_W1 := hidP (ab_W1)
  have sz_W1 : Hid (w.heap.size ≤ W1.heap.size) := hidP ab_W1.size
  clear ab_W1 
  obtain ⟨at0_W2, at1_W2, at2_W2⟩ := box3B W1 28 (.bool ad.s) (.int .i64 ad.H.toInt) (.int .i64 ad.L.toInt)
  have atF_W2 : ∀ o, (W1.alloc (.cells #[.bool ad.s, .int .i64 ad.H.toInt, .int .i64 ad.L.toInt] 28)).frozen? ⟨W1.heap.size, o, none⟩ = false := fun o => by simp [go_sem]
  have atL_W2 : W1.heap.size < (W1.alloc (.cells #[.bool ad.s, .int .i64 ad.H.toInt, .int .i64 ad.L.toInt] 28)).heap.size := by simp
  have ab_W2 := alloc_below W1 (.cells #[.bool ad.s, .int .i64 ad.H.toInt, .int .i64 ad.L.toInt] 28)
  have as_W2 : Hid ((W1.alloc (.cells #[.bool ad.s, .int .i64 ad.H.toInt, .int .i64 ad.L.toInt] 28)).heap.size = W1.heap.size + 1) := hidP (by simp)
  generalize W1.alloc (.cells #[.bool ad.s, .int .i64 ad.H.toInt, .int .i64 ad.L.toInt] 28) = W2 at *
  have bk0_W2 := (ab_W2.cell bkL_W1).trans bk0_W1
  have bk1_W2 := (ab_W2.cell bkL_W1).trans bk1_W1
  have bk2_W2 := (ab_W2.cell bkL_W1).trans bk2_W1
  have bkF_W2 : ∀ o, W2.frozen? ⟨w.heap.size, o, none⟩ = false := fun o => (ab_W2.frozen bkL_W1).trans (bkF_W1 o)
  have bkL_W2 : w.heap.size < W2.heap.size := Nat.lt_of_lt_of_le bkL_W1 ab_W2.size
  have acc_W2 := hidP (acc_W1.out.trans (ab_W2.mono acc_W1.out.size))
  have sz_W2 : Hid (W1.heap.size ≤ W2.heap.size) := hidP ab_W2.size
  clear ab_W2 bk0_W1 bk1_W1 bk2_W1 bkF_W1 bkL_W1 acc_W1
  rw [as_W1.out] at at0_W2 at1_W2 at2_W2 atL_W2
  have atF_W2' : ∀ o, W2.frozen? ⟨w.heap.size + 1, o, none⟩ = false := fun o => by have := atF_W2 o; rw [as_W1.out] at this; exact this
  clear atF_W2
  have atF_W2 := atF_W2'
  clear atF_W2'
  obtain ⟨rs0_W3, rs1_W3, rs2_W3⟩ := box3B W2 26 (.slice none 0 0) (.int .i64 0) (.int .i64 0)
  have rsF_W3 : ∀ o, (W2.alloc (.cells #[.slice none 0 0, .int .i64 0, .int .i64 0] 26)).frozen? ⟨W2.heap.size, o, none⟩ = false := fun o => by simp [go_sem]
  have rsL_W3 : W2.heap.size < (W2.alloc (.cells #[.slice none 0 0, .int .i64 0, .int .i64 0] 26)).heap.size := by simp
  have ab_W3 := alloc_below W2 (.cells #[.slice none 0 0, .int .i64 0, .int .i64 0] 26)
  have as_W3 : Hid ((W2.alloc (.cells #[.slice none 0 0, .int .i64 0, .int .i64 0] 26)).heap.size = W2.heap.size + 1) := hidP (by simp)
  generalize W2.alloc (.cells #[.slice none 0 0, .int .i64 0, .int .i64 0] 26) = W3 at *
  have bk0_W3 := (ab_W3.cell bkL_W2).trans bk0_W2
  have bk1_W3 := (ab_W3.cell bkL_W2).trans bk1_W2
  have bk2_W3 := (ab_W3.cell bkL_W2).trans bk2_W2
  have bkF_W3 : ∀ o, W3.frozen? ⟨w.heap.size, o, none⟩ = false := fun o => (ab_W3.frozen bkL_W2).trans (bkF_W2 o)
  have bkL_W3 : w.heap.size < W3.heap.size := Nat.lt_of_lt_of_le bkL_W2 ab_W3.size
  have at0_W3 := (ab_W3.cell atL_W2).trans at0_W2
  have at1_W3 := (ab_W3.cell atL_W2).trans at1_W2
  have at2_W3 := (ab_W3.cell atL_W2).trans at2_W2
  have atF_W3 : ∀ o, W3.frozen? ⟨w.heap.size + 1, o, none⟩ = false := fun o => (ab_W3.frozen atL_W2).trans (atF_W2 o)
  have atL_W3 : w.heap.size + 1 < W3.heap.size := Nat.lt_of_lt_of_le atL_W2 ab_W3.size
  have acc_W3 := hidP (acc_W2.out.trans (ab_W3.mono acc_W2.out.size))
  have sz_W3 : Hid (W2.heap.size ≤ W3.heap.size) := hidP ab_W3.size
  clear ab_W3 bk0_W2 bk1_W2 bk2_W2 bkF_W2 bkL_W2 at0_W2 at1_W2 at2_W2 atF_W2 atL_W2 acc_W2
  rw [as_W2.out, as_W1.out] at rs0_W3 rs1_W3 rs2_W3 rsL_W3
  have rsF_W3' : ∀ o, W3.frozen? ⟨w.heap.size + 1 + 1, o, none⟩ = false := fun o => by have := rsF_W3 o; rw [as_W2.out, as_W1.out] at this; exact this
  clear rsF_W3
  have rsF_W3 := rsF_W3'
  clear rsF_W3'
  refine (HOw.out _ acc_W3.out).mono ?_
  rintro e w4 ⟨a3, c3, rfl, og3, hb4⟩
  have og3' := hidP og3
  clear og3
  have bk0_w4 := (hb4.cell bkL_W3).trans bk0_W3
  have bk1_w4 := (hb4.cell bkL_W3).trans bk1_W3
  have bk2_w4 := (hb4.cell bkL_W3).trans bk2_W3
  have bkF_w4 : ∀ o, w4.frozen? ⟨w.heap.size, o, none⟩ = false := fun o => (hb4.frozen bkL_W3).trans (bkF_W3 o)
  have bkL_w4 : w.heap.size < w4.heap.size := Nat.lt_of_lt_of_le bkL_W3 hb4.size
  have at0_w4 := (hb4.cell atL_W3).trans at0_W3
  have at1_w4 := (hb4.cell atL_W3).trans at1_W3
  have at2_w4 := (hb4.cell atL_W3).trans at2_W3
  have atF_w4 : ∀ o, w4.frozen? ⟨w.heap.size + 1, o, none⟩ = false := fun o => (hb4.frozen atL_W3).trans (atF_W3 o)
  have atL_w4 : w.heap.size + 1 < w4.heap.size := Nat.lt_of_lt_of_le atL_W3 hb4.size
  have rs0_w4 := (hb4.cell rsL_W3).trans rs0_W3
  have rs1_w4 := (hb4.cell rsL_W3).trans rs1_W3
  have rs2_w4 := (hb4.cell rsL_W3).trans rs2_W3
  have rsF_w4 : ∀ o, w4.frozen? ⟨w.heap.size + 1 + 1, o, none⟩ = false := fun o => (hb4.frozen rsL_W3).trans (rsF_W3 o)
  have rsL_w4 : w.heap.size + 1 + 1 < w4.heap.size := Nat.lt_of_lt_of_le rsL_W3 hb4.size
  have acc_w4 := hidP (acc_W3.out.trans (hb4.mono acc_W3.out.size))
  have sz_w4 : Hid (W3.heap.size ≤ w4.heap.size) := hidP hb4.size
  clear hb4 bk0_W3 bk1_W3 bk2_W3 bkF_W3 bkL_W3 at0_W3 at1_W3 at2_W3 atF_W3 atL_W3 rs0_W3 rs1_W3 rs2_W3 rsF_W3 rsL_W3 acc_W3
  have oL_w4 := hidP (og3'.out)
  have lhL : Hid (∀ k, (Value.slice a3 n c3).ownBlock = some k → W3.heap.size ≤ k ∧ k < w4.heap.size) := hidP (fun k hk => OwnG.lt oL_w4.out k hk)
  clear og3'
  go_wp2_with fail
  have bk0_W5 : (((w4.setCell ⟨w.heap.size, 0, none⟩ (.slice a3 n c3)).setCell ⟨w.heap.size, 1, none⟩ (.int .i64 T)).setCell ⟨w.heap.size, 2, none⟩ (.int .i64 N)).cell? ⟨w.heap.size, 0, none⟩ = some (.slice a3 n c3) := by simp [go_sem, bk0_w4]
  have bk1_W5 : (((w4.setCell ⟨w.heap.size, 0, none⟩ (.slice a3 n c3)).setCell ⟨w.heap.size, 1, none⟩ (.int .i64 T)).setCell ⟨w.heap.size, 2, none⟩ (.int .i64 N)).cell? ⟨w.heap.size, 1, none⟩ = some (.int .i64 T) := by simp [go_sem, bk1_w4]
  have bk2_W5 : (((w4.setCell ⟨w.heap.size, 0, none⟩ (.slice a3 n c3)).setCell ⟨w.heap.size, 1, none⟩ (.int .i64 T)).setCell ⟨w.heap.size, 2, none⟩ (.int .i64 N)).cell? ⟨w.heap.size, 2, none⟩ = some (.int .i64 N) := by simp [go_sem, bk2_w4]
  have bkF_W5 : ∀ o, (((w4.setCell ⟨w.heap.size, 0, none⟩ (.slice a3 n c3)).setCell ⟨w.heap.size, 1, none⟩ (.int .i64 T)).setCell ⟨w.heap.size, 2, none⟩ (.int .i64 N)).frozen? ⟨w.heap.size, o, none⟩ = false := fun o => frz_set1 (frz_set1 (frz_set1 ((bkF_w4 o))))
  have bkL_W5 : w.heap.size < (((w4.setCell ⟨w.heap.size, 0, none⟩ (.slice a3 n c3)).setCell ⟨w.heap.size, 1, none⟩ (.int .i64 T)).setCell ⟨w.heap.size, 2, none⟩ (.int .i64 N)).heap.size := by simpa using bkL_w4
  have at0_W5 : (((w4.setCell ⟨w.heap.size, 0, none⟩ (.slice a3 n c3)).setCell ⟨w.heap.size, 1, none⟩ (.int .i64 T)).setCell ⟨w.heap.size, 2, none⟩ (.int .i64 N)).cell? ⟨w.heap.size + 1, 0, none⟩ = some (.bool ad.s) := cell_set1 (cell_set1 (cell_set1 (at0_w4) (by have := as_W1.out; have := sz_W1.out; have := as_W2.out; have := sz_W2.out; have := as_W3.out; have := sz_W3.out; have := sz_w4.out; omega)) (by have := as_W1.out; have := sz_W1.out; have := as_W2.out; have := sz_W2.out; have := as_W3.out; have := sz_W3.out; have := sz_w4.out; omega)) (by have := as_W1.out; have := sz_W1.out; have := as_W2.out; have := sz_W2.out; have := as_W3.out; have := sz_W3.out; have := sz_w4.out; omega)
  have at1_W5 : (((w4.setCell ⟨w.heap.size, 0, none⟩ (.slice a3 n c3)).setCell ⟨w.heap.size, 1, none⟩ (.int .i64 T)).setCell ⟨w.heap.size, 2, none⟩ (.int .i64 N)).cell? ⟨w.heap.size + 1, 1, none⟩ = some (.int .i64 ad.H.toInt) := cell_set1 (cell_set1 (cell_set1 (at1_w4) (by have := as_W1.out; have := sz_W1.out; have := as_W2.out; have := sz_W2.out; have := as_W3.out; have := sz_W3.out; have := sz_w4.out; omega)) (by have := as_W1.out; have := sz_W1.out; have := as_W2.out; have := sz_W2.out; have := as_W3.out; have := sz_W3.out; have := sz_w4.out; omega)) (by have := as_W1.out; have := sz_W1.out; have := as_W2.out; have := sz_W2.out; have := as_W3.out; have := sz_W3.out; have := sz_w4.out; omega)
  have at2_W5 : (((w4.setCell ⟨w.heap.size, 0, none⟩ (.slice a3 n c3)).setCell ⟨w.heap.size, 1, none⟩ (.int .i64 T)).setCell ⟨w.heap.size, 2, none⟩ (.int .i64 N)).cell? ⟨w.heap.size + 1, 2, none⟩ = some (.int .i64 ad.L.toInt) := cell_set1 (cell_set1 (cell_set1 (at2_w4) (by have := as_W1.out; have := sz_W1.out; have := as_W2.out; have := sz_W2.out; have := as_W3.out; have := sz_W3.out; have := sz_w4.out; omega)) (by have := as_W1.out; have := sz_W1.out; have := as_W2.out; have := sz_W2.out; have := as_W3.out; have := sz_W3.out; have := sz_w4.out; omega)) (by have := as_W1.out; have := sz_W1.out; have := as_W2.out; have := sz_W2.out; have := as_W3.out; have := sz_W3.out; have := sz_w4.out; omega)
  have atF_W5 : ∀ o, (((w4.setCell ⟨w.heap.size, 0, none⟩ (.slice a3 n c3)).setCell ⟨w.heap.size, 1, none⟩ (.int .i64 T)).setCell ⟨w.heap.size, 2, none⟩ (.int .i64 N)).frozen? ⟨w.heap.size + 1, o, none⟩ = false := fun o => frz_set1 (frz_set1 (frz_set1 ((atF_w4 o))))
  have atL_W5 : w.heap.size + 1 < (((w4.setCell ⟨w.heap.size, 0, none⟩ (.slice a3 n c3)).setCell ⟨w.heap.size, 1, none⟩ (.int .i64 T)).setCell ⟨w.heap.size, 2, none⟩ (.int .i64 N)).heap.size := by simpa using atL_w4
  have rs0_W5 : (((w4.setCell ⟨w.heap.size, 0, none⟩ (.slice a3 n c3)).setCell ⟨w.heap.size, 1, none⟩ (.int .i64 T)).setCell ⟨w.heap.size, 2, none⟩ (.int .i64 N)).cell? ⟨w.heap.size + 1 + 1, 0, none⟩ = some (.slice none 0 0) := cell_set1 (cell_set1 (cell_set1 (rs0_w4) (by have := as_W1.out; have := sz_W1.out; have := as_W2.out; have := sz_W2.out; have := as_W3.out; have := sz_W3.out; have := sz_w4.out; omega)) (by have := as_W1.out; have := sz_W1.out; have := as_W2.out; have := sz_W2.out; have := as_W3.out; have := sz_W3.out; have := sz_w4.out; omega)) (by have := as_W1.out; have := sz_W1.out; have := as_W2.out; have := sz_W2.out; have := as_W3.out; have := sz_W3.out; have := sz_w4.out; omega)
  have rs1_W5 : (((w4.setCell ⟨w.heap.size, 0, none⟩ (.slice a3 n c3)).setCell ⟨w.heap.size, 1, none⟩ (.int .i64 T)).setCell ⟨w.heap.size, 2, none⟩ (.int .i64 N)).cell? ⟨w.heap.size + 1 + 1, 1, none⟩ = some (.int .i64 0) := cell_set1 (cell_set1 (cell_set1 (rs1_w4) (by have := as_W1.out; have := sz_W1.out; have := as_W2.out; have := sz_W2.out; have := as_W3.out; have := sz_W3.out; have := sz_w4.out; omega)) (by have := as_W1.out; have := sz_W1.out; have := as_W2.out; have := sz_W2.out; have := as_W3.out; have := sz_W3.out; have := sz_w4.out; omega)) (by have := as_W1.out; have := sz_W1.out; have := as_W2.out; have := sz_W2.out; have := as_W3.out; have := sz_W3.out; have := sz_w4.out; omega)
  have rs2_W5 : (((w4.setCell ⟨w.heap.size, 0, none⟩ (.slice a3 n c3)).setCell ⟨w.heap.size, 1, none⟩ (.int .i64 T)).setCell ⟨w.heap.size, 2, none⟩ (.int .i64 N)).cell? ⟨w.heap.size + 1 + 1, 2, none⟩ = some (.int .i64 0) := cell_set1 (cell_set1 (cell_set1 (rs2_w4) (by have := as_W1.out; have := sz_W1.out; have := as_W2.out; have := sz_W2.out; have := as_W3.out; have := sz_W3.out; have := sz_w4.out; omega)) (by have := as_W1.out; have := sz_W1.out; have := as_W2.out; have := sz_W2.out; have := as_W3.out; have := sz_W3.out; have := sz_w4.out; omega)) (by have := as_W1.out; have := sz_W1.out; have := as_W2.out; have := sz_W2.out; have := as_W3.out; have := sz_W3.out; have := sz_w4.out; omega)
  have rsF_W5 : ∀ o, (((w4.setCell ⟨w.heap.size, 0, none⟩ (.slice a3 n c3)).setCell ⟨w.heap.size, 1, none⟩ (.int .i64 T)).setCell ⟨w.heap.size, 2, none⟩ (.int .i64 N)).frozen? ⟨w.heap.size + 1 + 1, o, none⟩ = false := fun o => frz_set1 (frz_set1 (frz_set1 ((rsF_w4 o))))
  have rsL_W5 : w.heap.size + 1 + 1 < (((w4.setCell ⟨w.heap.size, 0, none⟩ (.slice a3 n c3)).setCell ⟨w.heap.size, 1, none⟩ (.int .i64 T)).setCell ⟨w.heap.size, 2, none⟩ (.int .i64 N)).heap.size := by simpa using rsL_w4
  have oL_W5 : Hid (OwnG KLs 35 (((w4.setCell ⟨w.heap.size, 0, none⟩ (.slice a3 n c3)).setCell ⟨w.heap.size, 1, none⟩ (.int .i64 T)).setCell ⟨w.heap.size, 2, none⟩ (.int .i64 N)) (W3.heap.size) (.slice a3 n c3) (ls)) := hidP (OwnG.grown (OwnG.grown (OwnG.grown (oL_w4.out) (grown_cellG _ _ _ _) (OwnG.ne_of oL_w4.out (by have := as_W1.out; have := sz_W1.out; have := as_W2.out; have := sz_W2.out; have := as_W3.out; have := sz_W3.out; have := sz_w4.out; omega))) (grown_cellG _ _ _ _) (OwnG.ne_of oL_w4.out (by have := as_W1.out; have := sz_W1.out; have := as_W2.out; have := sz_W2.out; have := as_W3.out; have := sz_W3.out; have := sz_w4.out; omega))) (grown_cellG _ _ _ _) (OwnG.ne_of oL_w4.out (by have := as_W1.out; have := sz_W1.out; have := as_W2.out; have := sz_W2.out; have := as_W3.out; have := sz_W3.out; have := sz_w4.out; omega)))
  have acc_W5 : Hid (Below w.heap.size w (((w4.setCell ⟨w.heap.size, 0, none⟩ (.slice a3 n c3)).setCell ⟨w.heap.size, 1, none⟩ (.int .i64 T)).setCell ⟨w.heap.size, 2, none⟩ (.int .i64 N))) := hidP (Below.setCell (Below.setCell (Below.setCell (acc_w4.out) (by have := as_W1.out; have := sz_W1.out; have := as_W2.out; have := sz_W2.out; have := as_W3.out; have := sz_W3.out; have := sz_w4.out; try dsimp only; omega) _) (by have := as_W1.out; have := sz_W1.out; have := as_W2.out; have := sz_W2.out; have := as_W3.out; have := sz_W3.out; have := sz_w4.out; try dsimp only; omega) _) (by have := as_W1.out; have := sz_W1.out; have := as_W2.out; have := sz_W2.out; have := as_W3.out; have := sz_W3.out; have := sz_w4.out; try dsimp only; omega) _)
  have sz_W5 : Hid ((((w4.setCell ⟨w.heap.size, 0, none⟩ (.slice a3 n c3)).setCell ⟨w.heap.size, 1, none⟩ (.int .i64 T)).setCell ⟨w.heap.size, 2, none⟩ (.int .i64 N)).heap.size = w4.heap.size) := hidP (by simp)
  generalize ((w4.setCell ⟨w.heap.size, 0, none⟩ (.slice a3 n c3)).setCell ⟨w.heap.size, 1, none⟩ (.int .i64 T)).setCell ⟨w.heap.size, 2, none⟩ (.int .i64 N) = W5 at *
  clear bk0_w4 bk1_w4 bk2_w4 bkF_w4 bkL_w4 at0_w4 at1_w4 at2_w4 atF_w4 atL_w4 rs0_w4 rs1_w4 rs2_w4 rsF_w4 rsL_w4 oL_w4 acc_w4
  refine (HPh.out _ a3 c3 oL_W5.out.row).mono ?_
  rintro e w6 ⟨rfl, hb6⟩
  have bk0_w6 := (hb6.cell bkL_W5).trans bk0_W5
  have bk1_w6 := (hb6.cell bkL_W5).trans bk1_W5
  have bk2_w6 := (hb6.cell bkL_W5).trans bk2_W5
  have bkF_w6 : ∀ o, w6.frozen? ⟨w.heap.size, o, none⟩ = false := fun o => (hb6.frozen bkL_W5).trans (bkF_W5 o)
  have bkL_w6 : w.heap.size < w6.heap.size := Nat.lt_of_lt_of_le bkL_W5 hb6.size
  have at0_w6 := (hb6.cell atL_W5).trans at0_W5
  have at1_w6 := (hb6.cell atL_W5).trans at1_W5
  have at2_w6 := (hb6.cell atL_W5).trans at2_W5
  have atF_w6 : ∀ o, w6.frozen? ⟨w.heap.size + 1, o, none⟩ = false := fun o => (hb6.frozen atL_W5).trans (atF_W5 o)
  have atL_w6 : w.heap.size + 1 < w6.heap.size := Nat.lt_of_lt_of_le atL_W5 hb6.size
  have rs0_w6 := (hb6.cell rsL_W5).trans rs0_W5
  have rs1_w6 := (hb6.cell rsL_W5).trans rs1_W5
  have rs2_w6 := (hb6.cell rsL_W5).trans rs2_W5
  have rsF_w6 : ∀ o, w6.frozen? ⟨w.heap.size + 1 + 1, o, none⟩ = false := fun o => (hb6.frozen rsL_W5).trans (rsF_W5 o)
  have rsL_w6 : w.heap.size + 1 + 1 < w6.heap.size := Nat.lt_of_lt_of_le rsL_W5 hb6.size
  have oL_w6 := hidP (OwnG.later oL_W5.out hb6)
  have acc_w6 := hidP (acc_W5.out.trans (hb6.mono acc_W5.out.size))
  have sz_w6 : Hid (W5.heap.size ≤ w6.heap.size) := hidP hb6.size
  clear hb6 bk0_W5 bk1_W5 bk2_W5 bkF_W5 bkL_W5 at0_W5 at1_W5 at2_W5 atF_W5 atL_W5 rs0_W5 rs1_W5 rs2_W5 rsF_W5 rsL_W5 oL_W5 acc_W5
  go_wp2_with fail
  have hBW : w.heap.size + 1 + 1 ≤ w6.heap.size := (by have := as_W1.out; have := sz_W1.out; have := as_W2.out; have := sz_W2.out; have := as_W3.out; have := sz_W3.out; have := sz_w4.out; have := sz_W5.out; have := sz_w6.out; omega)
  have l0 : w.heap.size < w.heap.size + 1 + 1 := by omega
  have HSx : Hid (∀ x, Below (w.heap.size + 1 + 1) w6 x → (x.cell? ⟨w.heap.size, 0, none⟩ = some (.slice a3 n c3) ∧ x.cell? ⟨w.heap.size, 1, none⟩ = some (.int .i64 T) ∧ x.cell? ⟨w.heap.size, 2, none⟩ = some (.int .i64 N) ∧ Below (w.heap.size + 1 + 1) w6 x)) := hidP fun x h =>
    ⟨(h.cell l0).trans bk0_w6, (h.cell l0).trans bk1_w6, (h.cell l0).trans bk2_w6, h⟩
  refine wp_region_held_drew (S := (fun x => x.cell? ⟨w.heap.size, 0, none⟩ = some (.slice a3 n c3) ∧ x.cell? ⟨w.heap.size, 1, none⟩ = some (.int .i64 T) ∧ x.cell? ⟨w.heap.size, 2, none⟩ = some (.int .i64 N) ∧ Below (w.heap.size + 1 + 1) w6 x)) (by kernel_rfl) ?_ (fun hHeld => ?_)
  · try dsimp only
    exact HSx.out _ (Below.refl _ _).drew
  refine tkA 0 21 (v := ?_) rfl (by kernel_rfl) (fun _ _ _ h => h) (by rfl) ?_ (by assumption) ?_; rotate_left; · (intro w hSw; (try dsimp only at hSw); go_simp; try with_reducible rfl)
  simp only [Act.put, List.setIfInBounds_toArray, List.set_cons_zero, List.set_cons_succ]
  refine tkA 1 22 (v := ?_) rfl (by kernel_rfl) (fun _ _ _ h => h) (by rfl) ?_ (by assumption) ?_; rotate_left; · (intro w hSw; (try dsimp only at hSw); go_simp; try with_reducible rfl)
  simp only [Act.put, List.setIfInBounds_toArray, List.set_cons_zero, List.set_cons_succ]
  refine wpAnyH_ready (rs := [2]) (by kernel_rfl) (by simp) ?_
  refine AllReadyH.cons rfl (fun K hK => ?_) AllReadyH.nil
  go_simp
  go_wp2_with (first | (go_at_call 26; refine (leaseCode_any x _ (HG.out.later (acc_w6.out.trans (Below.mono (Below.refl _ _).drew (by have := acc_w6.out.size; omega))))).mono ?_; rintro e w7 ⟨rfl, hb7⟩; have b7 := (hHeld.2.2.2).trans (hb7.mono (Nat.le_trans hBW (hHeld.2.2.2).size))))
  refine hK.out _ _ ?_ (fun hHeld => ?_)
  · try dsimp only
    exact HSx.out _ b7
  clear hK K
  have r0 := (hb7.cell (show w.heap.size + 1 + 1 < w6.heap.size from rsL_w6)).trans rs0_w6
  have r1 := (hb7.cell (show w.heap.size + 1 + 1 < w6.heap.size from rsL_w6)).trans rs1_w6
  have r2 := (hb7.cell (show w.heap.size + 1 + 1 < w6.heap.size from rsL_w6)).trans rs2_w6
  have rF : ∀ o, w7.frozen? ⟨w.heap.size + 1 + 1, o, none⟩ = false := fun o => (hb7.frozen (show w.heap.size + 1 + 1 < w6.heap.size from rsL_w6)).trans (rsF_w6 o)
  refine wpAnyH_ready (rs := [3]) (by kernel_rfl) (by simp) ?_
  refine AllReadyH.cons rfl (fun K hK => ?_) AllReadyH.nil
  go_simp
  refine hK.out _ _ ?_ (fun hHeld => ?_)
  · try dsimp only
    refine HSx.out _ ?_
    repeat (with_reducible refine Below.setCell ?_ ?_ _; rotate_left; (focus (first | (simp; done) | (simp; omega))))
    exact b7
  clear hK K
  refine tkA 4 7 (v := ?_) rfl (by kernel_rfl) (fun _ _ _ h => h) (by rfl) ?_ (by assumption) ?_; rotate_left; · (intro w hSw; (try dsimp only at hSw); go_simp; try with_reducible rfl)
  simp only [Act.put, List.setIfInBounds_toArray]
  have HE := hidP (hHeld.2.2.2)
  refine wpAnyH_done (by kernel_rfl) ?_ _
  clear hHeld
  have b7' : Below w6.heap.size w6 w7 := by have := hb7; exact (Below.refl _ _).drew.trans this
  clear HE HSx b7 hb7
  have bk0_w7 := (b7'.cell bkL_w6).trans bk0_w6
  have bk1_w7 := (b7'.cell bkL_w6).trans bk1_w6
  have bk2_w7 := (b7'.cell bkL_w6).trans bk2_w6
  have bkF_w7 : ∀ o, w7.frozen? ⟨w.heap.size, o, none⟩ = false := fun o => (b7'.frozen bkL_w6).trans (bkF_w6 o)
  have bkL_w7 : w.heap.size < w7.heap.size := Nat.lt_of_lt_of_le bkL_w6 b7'.size
  have at0_w7 := (b7'.cell atL_w6).trans at0_w6
  have at1_w7 := (b7'.cell atL_w6).trans at1_w6
  have at2_w7 := (b7'.cell atL_w6).trans at2_w6
  have atF_w7 : ∀ o, w7.frozen? ⟨w.heap.size + 1, o, none⟩ = false := fun o => (b7'.frozen atL_w6).trans (atF_w6 o)
  have atL_w7 : w.heap.size + 1 < w7.heap.size := Nat.lt_of_lt_of_le atL_w6 b7'.size
  have rs0_w7 := (b7'.cell rsL_w6).trans rs0_w6
  have rs1_w7 := (b7'.cell rsL_w6).trans rs1_w6
  have rs2_w7 := (b7'.cell rsL_w6).trans rs2_w6
  have rsF_w7 : ∀ o, w7.frozen? ⟨w.heap.size + 1 + 1, o, none⟩ = false := fun o => (b7'.frozen rsL_w6).trans (rsF_w6 o)
  have rsL_w7 : w.heap.size + 1 + 1 < w7.heap.size := Nat.lt_of_lt_of_le rsL_w6 b7'.size
  have oL_w7 := hidP (OwnG.later oL_w6.out b7')
  have acc_w7 := hidP (acc_w6.out.trans (b7'.mono acc_w6.out.size))
  have sz_w7 : Hid (w6.heap.size ≤ w7.heap.size) := hidP b7'.size
  clear b7' bk0_w6 bk1_w6 bk2_w6 bkF_w6 bkL_w6 at0_w6 at1_w6 at2_w6 atF_w6 atL_w6 rs0_w6 rs1_w6 rs2_w6 rsF_w6 rsL_w6 oL_w6 acc_w6
  go_wp2_with fail
  refine bodyPost_ret (v := .tuple #[.agg #[.slice a3 n c3, .int .i64 T, .int .i64 N], .int .i64 x]) (by simp [results, Tryz.results12, go_sem, rs0_w7, rs1_w7, rs2_w7]) rfl ⟨_, _, rfl, ?_, ?_⟩
  · refine OwnG.mono (B := W3.heap.size) ?_ (by have := as_W1.out; have := sz_W1.out; have := as_W2.out; have := sz_W2.out; have := as_W3.out; have := sz_W3.out; have := sz_w4.out; have := sz_W5.out; have := sz_w6.out; have := sz_w7.out; omega)
    iterate 3 (with_reducible refine OwnG.grown ?_ (grown_cellG _ _ _ _) ?_; rotate_left; (focus (exact OwnG.ne_of oL_w7.out (by have := as_W1.out; have := sz_W1.out; have := as_W2.out; have := sz_W2.out; have := as_W3.out; have := sz_W3.out; have := sz_w4.out; have := sz_W5.out; have := sz_w6.out; have := sz_w7.out; omega))))
    with_reducible exact oL_w7.out
  · repeat (with_reducible refine Below.setCell ?_ ?_ _; rotate_left; (focus (first | (simp; done) | (simp; omega))))
    exact acc_w7.out

set_option maxRecDepth 10000 in
set_option maxHeartbeats 4000000 in
theorem iRel_yes (a : Option Addr) (n c : Nat) (T N : Int) (ls : List Ls) (ad : Ad) (tk : Int) (w : World) (hn : n = ls.length) (hB : RowG KLs w a ls) (hl : n ≤ 1048576) (I : Nat) (hI : I < n) (HP : ∀ W a c, RowG KLs W a ls → Calls Tryz.prog 35 #[.agg #[.slice a n c, .int .i64 T, .int .i64 N], .agg #[.bool ad.s, .int .i64 ad.H.toInt, .int .i64 ad.L.toInt], .int .i64 tk] W fun e w' => e = .returned (.tuple #[.int .i64 I, .nilIface]) ∧ Below W.heap.size W w') :
    Calls Tryz.prog 12 #[.agg #[.slice a n c, .int .i64 T, .int .i64 N], .agg #[.bool ad.s, .int .i64 ad.H.toInt, .int .i64 ad.L.toInt], .int .i64 tk] w fun e w' => ∃ a' c', e = .returned (.tuple #[.agg #[.slice a' (n - 1) c', .int .i64 T, .int .i64 N], .int .i64 0]) ∧ OwnG KLs 35 w' w.heap.size (.slice a' (n - 1) c') (ls.eraseIdx I) ∧ Below w.heap.size w w' := by
  have HOw := hidP (fun W h => ownBook_any a n c T N ls W hn (hB.later h) hl)
  have HPh := hidP HP
  have HN := hidP hn
  clear hB hn HP
  go_enter Tryz.func12, Tryz.ntmps12
  go_wp2_with fail
  obtain ⟨bk0_W1, bk1_W1, bk2_W1⟩ := box3B w 26 (.slice a n c) (.int .i64 T) (.int .i64 N)
  have bkF_W1 : ∀ o, (w.alloc (.cells #[.slice a n c, .int .i64 T, .int .i64 N] 26)).frozen? ⟨w.heap.size, o, none⟩ = false := fun o => by simp [go_sem]
  have bkL_W1 : w.heap.size < (w.alloc (.cells #[.slice a n c, .int .i64 T, .int .i64 N] 26)).heap.size := by simp
  have ab_W1 := alloc_below w (.cells #[.slice a n c, .int .i64 T, .int .i64 N] 26)
  have as_W1 : Hid ((w.alloc (.cells #[.slice a n c, .int .i64 T, .int .i64 N] 26)).heap.size = w.heap.size + 1) := hidP (by simp)
  generalize w.alloc (.cells #[.slice a n c, .int .i64 T, .int .i64 N] 26) = W1 at *
  have acc_W1 := hidP (ab_W1)
  have sz_W1 : Hid (w.heap.size ≤ W1.heap.size) := hidP ab_W1.size
  clear ab_W1 
  obtain ⟨at0_W2, at1_W2, at2_W2⟩ := box3B W1 28 (.bool ad.s) (.int .i64 ad.H.toInt) (.int .i64 ad.L.toInt)
  have atF_W2 : ∀ o, (W1.alloc (.cells #[.bool ad.s, .int .i64 ad.H.toInt, .int .i64 ad.L.toInt] 28)).frozen? ⟨W1.heap.size, o, none⟩ = false := fun o => by simp [go_sem]
  have atL_W2 : W1.heap.size < (W1.alloc (.cells #[.bool ad.s, .int .i64 ad.H.toInt, .int .i64 ad.L.toInt] 28)).heap.size := by simp
  have ab_W2 := alloc_below W1 (.cells #[.bool ad.s, .int .i64 ad.H.toInt, .int .i64 ad.L.toInt] 28)
  have as_W2 : Hid ((W1.alloc (.cells #[.bool ad.s, .int .i64 ad.H.toInt, .int .i64 ad.L.toInt] 28)).heap.size = W1.heap.size + 1) := hidP (by simp)
  generalize W1.alloc (.cells #[.bool ad.s, .int .i64 ad.H.toInt, .int .i64 ad.L.toInt] 28) = W2 at *
  have bk0_W2 := (ab_W2.cell bkL_W1).trans bk0_W1
  have bk1_W2 := (ab_W2.cell bkL_W1).trans bk1_W1
  have bk2_W2 := (ab_W2.cell bkL_W1).trans bk2_W1
  have bkF_W2 : ∀ o, W2.frozen? ⟨w.heap.size, o, none⟩ = false := fun o => (ab_W2.frozen bkL_W1).trans (bkF_W1 o)
  have bkL_W2 : w.heap.size < W2.heap.size := Nat.lt_of_lt_of_le bkL_W1 ab_W2.size
  have acc_W2 := hidP (acc_W1.out.trans (ab_W2.mono acc_W1.out.size))
  have sz_W2 : Hid (W1.heap.size ≤ W2.heap.size) := hidP ab_W2.size
  clear ab_W2 bk0_W1 bk1_W1 bk2_W1 bkF_W1 bkL_W1 acc_W1
  rw [as_W1.out] at at0_W2 at1_W2 at2_W2 atL_W2
  have atF_W2' : ∀ o, W2.frozen? ⟨w.heap.size + 1, o, none⟩ = false := fun o => by have := atF_W2 o; rw [as_W1.out] at this; exact this
  clear atF_W2
  have atF_W2 := atF_W2'
  clear atF_W2'
  obtain ⟨rs0_W3, rs1_W3, rs2_W3⟩ := box3B W2 26 (.slice none 0 0) (.int .i64 0) (.int .i64 0)
  have rsF_W3 : ∀ o, (W2.alloc (.cells #[.slice none 0 0, .int .i64 0, .int .i64 0] 26)).frozen? ⟨W2.heap.size, o, none⟩ = false := fun o => by simp [go_sem]
  have rsL_W3 : W2.heap.size < (W2.alloc (.cells #[.slice none 0 0, .int .i64 0, .int .i64 0] 26)).heap.size := by simp
  have ab_W3 := alloc_below W2 (.cells #[.slice none 0 0, .int .i64 0, .int .i64 0] 26)
  have as_W3 : Hid ((W2.alloc (.cells #[.slice none 0 0, .int .i64 0, .int .i64 0] 26)).heap.size = W2.heap.size + 1) := hidP (by simp)
  generalize W2.alloc (.cells #[.slice none 0 0, .int .i64 0, .int .i64 0] 26) = W3 at *
  have bk0_W3 := (ab_W3.cell bkL_W2).trans bk0_W2
  have bk1_W3 := (ab_W3.cell bkL_W2).trans bk1_W2
  have bk2_W3 := (ab_W3.cell bkL_W2).trans bk2_W2
  have bkF_W3 : ∀ o, W3.frozen? ⟨w.heap.size, o, none⟩ = false := fun o => (ab_W3.frozen bkL_W2).trans (bkF_W2 o)
  have bkL_W3 : w.heap.size < W3.heap.size := Nat.lt_of_lt_of_le bkL_W2 ab_W3.size
  have at0_W3 := (ab_W3.cell atL_W2).trans at0_W2
  have at1_W3 := (ab_W3.cell atL_W2).trans at1_W2
  have at2_W3 := (ab_W3.cell atL_W2).trans at2_W2
  have atF_W3 : ∀ o, W3.frozen? ⟨w.heap.size + 1, o, none⟩ = false := fun o => (ab_W3.frozen atL_W2).trans (atF_W2 o)
  have atL_W3 : w.heap.size + 1 < W3.heap.size := Nat.lt_of_lt_of_le atL_W2 ab_W3.size
  have acc_W3 := hidP (acc_W2.out.trans (ab_W3.mono acc_W2.out.size))
  have sz_W3 : Hid (W2.heap.size ≤ W3.heap.size) := hidP ab_W3.size
  clear ab_W3 bk0_W2 bk1_W2 bk2_W2 bkF_W2 bkL_W2 at0_W2 at1_W2 at2_W2 atF_W2 atL_W2 acc_W2
  rw [as_W2.out, as_W1.out] at rs0_W3 rs1_W3 rs2_W3 rsL_W3
  have rsF_W3' : ∀ o, W3.frozen? ⟨w.heap.size + 1 + 1, o, none⟩ = false := fun o => by have := rsF_W3 o; rw [as_W2.out, as_W1.out] at this; exact this
  clear rsF_W3
  have rsF_W3 := rsF_W3'
  clear rsF_W3'
  refine (HOw.out _ acc_W3.out).mono ?_
  rintro e w4 ⟨a3, c3, rfl, og3, hb4⟩
  have og3' := hidP og3
  clear og3
  have bk0_w4 := (hb4.cell bkL_W3).trans bk0_W3
  have bk1_w4 := (hb4.cell bkL_W3).trans bk1_W3
  have bk2_w4 := (hb4.cell bkL_W3).trans bk2_W3
  have bkF_w4 : ∀ o, w4.frozen? ⟨w.heap.size, o, none⟩ = false := fun o => (hb4.frozen bkL_W3).trans (bkF_W3 o)
  have bkL_w4 : w.heap.size < w4.heap.size := Nat.lt_of_lt_of_le bkL_W3 hb4.size
  have at0_w4 := (hb4.cell atL_W3).trans at0_W3
  have at1_w4 := (hb4.cell atL_W3).trans at1_W3
  have at2_w4 := (hb4.cell atL_W3).trans at2_W3
  have atF_w4 : ∀ o, w4.frozen? ⟨w.heap.size + 1, o, none⟩ = false := fun o => (hb4.frozen atL_W3).trans (atF_W3 o)
  have atL_w4 : w.heap.size + 1 < w4.heap.size := Nat.lt_of_lt_of_le atL_W3 hb4.size
  have rs0_w4 := (hb4.cell rsL_W3).trans rs0_W3
  have rs1_w4 := (hb4.cell rsL_W3).trans rs1_W3
  have rs2_w4 := (hb4.cell rsL_W3).trans rs2_W3
  have rsF_w4 : ∀ o, w4.frozen? ⟨w.heap.size + 1 + 1, o, none⟩ = false := fun o => (hb4.frozen rsL_W3).trans (rsF_W3 o)
  have rsL_w4 : w.heap.size + 1 + 1 < w4.heap.size := Nat.lt_of_lt_of_le rsL_W3 hb4.size
  have acc_w4 := hidP (acc_W3.out.trans (hb4.mono acc_W3.out.size))
  have sz_w4 : Hid (W3.heap.size ≤ w4.heap.size) := hidP hb4.size
  clear hb4 bk0_W3 bk1_W3 bk2_W3 bkF_W3 bkL_W3 at0_W3 at1_W3 at2_W3 atF_W3 atL_W3 rs0_W3 rs1_W3 rs2_W3 rsF_W3 rsL_W3 acc_W3
  have oL_w4 := hidP (og3'.out)
  have lhL : Hid (∀ k, (Value.slice a3 n c3).ownBlock = some k → W3.heap.size ≤ k ∧ k < w4.heap.size) := hidP (fun k hk => OwnG.lt oL_w4.out k hk)
  clear og3'
  go_wp2_with fail
  have bk0_W5 : (((w4.setCell ⟨w.heap.size, 0, none⟩ (.slice a3 n c3)).setCell ⟨w.heap.size, 1, none⟩ (.int .i64 T)).setCell ⟨w.heap.size, 2, none⟩ (.int .i64 N)).cell? ⟨w.heap.size, 0, none⟩ = some (.slice a3 n c3) := by simp [go_sem, bk0_w4]
  have bk1_W5 : (((w4.setCell ⟨w.heap.size, 0, none⟩ (.slice a3 n c3)).setCell ⟨w.heap.size, 1, none⟩ (.int .i64 T)).setCell ⟨w.heap.size, 2, none⟩ (.int .i64 N)).cell? ⟨w.heap.size, 1, none⟩ = some (.int .i64 T) := by simp [go_sem, bk1_w4]
  have bk2_W5 : (((w4.setCell ⟨w.heap.size, 0, none⟩ (.slice a3 n c3)).setCell ⟨w.heap.size, 1, none⟩ (.int .i64 T)).setCell ⟨w.heap.size, 2, none⟩ (.int .i64 N)).cell? ⟨w.heap.size, 2, none⟩ = some (.int .i64 N) := by simp [go_sem, bk2_w4]
  have bkF_W5 : ∀ o, (((w4.setCell ⟨w.heap.size, 0, none⟩ (.slice a3 n c3)).setCell ⟨w.heap.size, 1, none⟩ (.int .i64 T)).setCell ⟨w.heap.size, 2, none⟩ (.int .i64 N)).frozen? ⟨w.heap.size, o, none⟩ = false := fun o => frz_set1 (frz_set1 (frz_set1 ((bkF_w4 o))))
  have bkL_W5 : w.heap.size < (((w4.setCell ⟨w.heap.size, 0, none⟩ (.slice a3 n c3)).setCell ⟨w.heap.size, 1, none⟩ (.int .i64 T)).setCell ⟨w.heap.size, 2, none⟩ (.int .i64 N)).heap.size := by simpa using bkL_w4
  have at0_W5 : (((w4.setCell ⟨w.heap.size, 0, none⟩ (.slice a3 n c3)).setCell ⟨w.heap.size, 1, none⟩ (.int .i64 T)).setCell ⟨w.heap.size, 2, none⟩ (.int .i64 N)).cell? ⟨w.heap.size + 1, 0, none⟩ = some (.bool ad.s) := cell_set1 (cell_set1 (cell_set1 (at0_w4) (by have := as_W1.out; have := sz_W1.out; have := as_W2.out; have := sz_W2.out; have := as_W3.out; have := sz_W3.out; have := sz_w4.out; omega)) (by have := as_W1.out; have := sz_W1.out; have := as_W2.out; have := sz_W2.out; have := as_W3.out; have := sz_W3.out; have := sz_w4.out; omega)) (by have := as_W1.out; have := sz_W1.out; have := as_W2.out; have := sz_W2.out; have := as_W3.out; have := sz_W3.out; have := sz_w4.out; omega)
  have at1_W5 : (((w4.setCell ⟨w.heap.size, 0, none⟩ (.slice a3 n c3)).setCell ⟨w.heap.size, 1, none⟩ (.int .i64 T)).setCell ⟨w.heap.size, 2, none⟩ (.int .i64 N)).cell? ⟨w.heap.size + 1, 1, none⟩ = some (.int .i64 ad.H.toInt) := cell_set1 (cell_set1 (cell_set1 (at1_w4) (by have := as_W1.out; have := sz_W1.out; have := as_W2.out; have := sz_W2.out; have := as_W3.out; have := sz_W3.out; have := sz_w4.out; omega)) (by have := as_W1.out; have := sz_W1.out; have := as_W2.out; have := sz_W2.out; have := as_W3.out; have := sz_W3.out; have := sz_w4.out; omega)) (by have := as_W1.out; have := sz_W1.out; have := as_W2.out; have := sz_W2.out; have := as_W3.out; have := sz_W3.out; have := sz_w4.out; omega)
  have at2_W5 : (((w4.setCell ⟨w.heap.size, 0, none⟩ (.slice a3 n c3)).setCell ⟨w.heap.size, 1, none⟩ (.int .i64 T)).setCell ⟨w.heap.size, 2, none⟩ (.int .i64 N)).cell? ⟨w.heap.size + 1, 2, none⟩ = some (.int .i64 ad.L.toInt) := cell_set1 (cell_set1 (cell_set1 (at2_w4) (by have := as_W1.out; have := sz_W1.out; have := as_W2.out; have := sz_W2.out; have := as_W3.out; have := sz_W3.out; have := sz_w4.out; omega)) (by have := as_W1.out; have := sz_W1.out; have := as_W2.out; have := sz_W2.out; have := as_W3.out; have := sz_W3.out; have := sz_w4.out; omega)) (by have := as_W1.out; have := sz_W1.out; have := as_W2.out; have := sz_W2.out; have := as_W3.out; have := sz_W3.out; have := sz_w4.out; omega)
  have atF_W5 : ∀ o, (((w4.setCell ⟨w.heap.size, 0, none⟩ (.slice a3 n c3)).setCell ⟨w.heap.size, 1, none⟩ (.int .i64 T)).setCell ⟨w.heap.size, 2, none⟩ (.int .i64 N)).frozen? ⟨w.heap.size + 1, o, none⟩ = false := fun o => frz_set1 (frz_set1 (frz_set1 ((atF_w4 o))))
  have atL_W5 : w.heap.size + 1 < (((w4.setCell ⟨w.heap.size, 0, none⟩ (.slice a3 n c3)).setCell ⟨w.heap.size, 1, none⟩ (.int .i64 T)).setCell ⟨w.heap.size, 2, none⟩ (.int .i64 N)).heap.size := by simpa using atL_w4
  have rs0_W5 : (((w4.setCell ⟨w.heap.size, 0, none⟩ (.slice a3 n c3)).setCell ⟨w.heap.size, 1, none⟩ (.int .i64 T)).setCell ⟨w.heap.size, 2, none⟩ (.int .i64 N)).cell? ⟨w.heap.size + 1 + 1, 0, none⟩ = some (.slice none 0 0) := cell_set1 (cell_set1 (cell_set1 (rs0_w4) (by have := as_W1.out; have := sz_W1.out; have := as_W2.out; have := sz_W2.out; have := as_W3.out; have := sz_W3.out; have := sz_w4.out; omega)) (by have := as_W1.out; have := sz_W1.out; have := as_W2.out; have := sz_W2.out; have := as_W3.out; have := sz_W3.out; have := sz_w4.out; omega)) (by have := as_W1.out; have := sz_W1.out; have := as_W2.out; have := sz_W2.out; have := as_W3.out; have := sz_W3.out; have := sz_w4.out; omega)
  have rs1_W5 : (((w4.setCell ⟨w.heap.size, 0, none⟩ (.slice a3 n c3)).setCell ⟨w.heap.size, 1, none⟩ (.int .i64 T)).setCell ⟨w.heap.size, 2, none⟩ (.int .i64 N)).cell? ⟨w.heap.size + 1 + 1, 1, none⟩ = some (.int .i64 0) := cell_set1 (cell_set1 (cell_set1 (rs1_w4) (by have := as_W1.out; have := sz_W1.out; have := as_W2.out; have := sz_W2.out; have := as_W3.out; have := sz_W3.out; have := sz_w4.out; omega)) (by have := as_W1.out; have := sz_W1.out; have := as_W2.out; have := sz_W2.out; have := as_W3.out; have := sz_W3.out; have := sz_w4.out; omega)) (by have := as_W1.out; have := sz_W1.out; have := as_W2.out; have := sz_W2.out; have := as_W3.out; have := sz_W3.out; have := sz_w4.out; omega)
  have rs2_W5 : (((w4.setCell ⟨w.heap.size, 0, none⟩ (.slice a3 n c3)).setCell ⟨w.heap.size, 1, none⟩ (.int .i64 T)).setCell ⟨w.heap.size, 2, none⟩ (.int .i64 N)).cell? ⟨w.heap.size + 1 + 1, 2, none⟩ = some (.int .i64 0) := cell_set1 (cell_set1 (cell_set1 (rs2_w4) (by have := as_W1.out; have := sz_W1.out; have := as_W2.out; have := sz_W2.out; have := as_W3.out; have := sz_W3.out; have := sz_w4.out; omega)) (by have := as_W1.out; have := sz_W1.out; have := as_W2.out; have := sz_W2.out; have := as_W3.out; have := sz_W3.out; have := sz_w4.out; omega)) (by have := as_W1.out; have := sz_W1.out; have := as_W2.out; have := sz_W2.out; have := as_W3.out; have := sz_W3.out; have := sz_w4.out; omega)
  have rsF_W5 : ∀ o, (((w4.setCell ⟨w.heap.size, 0, none⟩ (.slice a3 n c3)).setCell ⟨w.heap.size, 1, none⟩ (.int .i64 T)).setCell ⟨w.heap.size, 2, none⟩ (.int .i64 N)).frozen? ⟨w.heap.size + 1 + 1, o, none⟩ = false := fun o => frz_set1 (frz_set1 (frz_set1 ((rsF_w4 o))))
  have rsL_W5 : w.heap.size + 1 + 1 < (((w4.setCell ⟨w.heap.size, 0, none⟩ (.slice a3 n c3)).setCell ⟨w.heap.size, 1, none⟩ (.int .i64 T)).setCell ⟨w.heap.size, 2, none⟩ (.int .i64 N)).heap.size := by simpa using rsL_w4
  have oL_W5 : Hid (OwnG KLs 35 (((w4.setCell ⟨w.heap.size, 0, none⟩ (.slice a3 n c3)).setCell ⟨w.heap.size, 1, none⟩ (.int .i64 T)).setCell ⟨w.heap.size, 2, none⟩ (.int .i64 N)) (W3.heap.size) (.slice a3 n c3) (ls)) := hidP (OwnG.grown (OwnG.grown (OwnG.grown (oL_w4.out) (grown_cellG _ _ _ _) (OwnG.ne_of oL_w4.out (by have := as_W1.out; have := sz_W1.out; have := as_W2.out; have := sz_W2.out; have := as_W3.out; have := sz_W3.out; have := sz_w4.out; omega))) (grown_cellG _ _ _ _) (OwnG.ne_of oL_w4.out (by have := as_W1.out; have := sz_W1.out; have := as_W2.out; have := sz_W2.out; have := as_W3.out; have := sz_W3.out; have := sz_w4.out; omega))) (grown_cellG _ _ _ _) (OwnG.ne_of oL_w4.out (by have := as_W1.out; have := sz_W1.out; have := as_W2.out; have := sz_W2.out; have := as_W3.out; have := sz_W3.out; have := sz_w4.out; omega)))
  have acc_W5 : Hid (Below w.heap.size w (((w4.setCell ⟨w.heap.size, 0, none⟩ (.slice a3 n c3)).setCell ⟨w.heap.size, 1, none⟩ (.int .i64 T)).setCell ⟨w.heap.size, 2, none⟩ (.int .i64 N))) := hidP (Below.setCell (Below.setCell (Below.setCell (acc_w4.out) (by have := as_W1.out; have := sz_W1.out; have := as_W2.out; have := sz_W2.out; have := as_W3.out; have := sz_W3.out; have := sz_w4.out; try dsimp only; omega) _) (by have := as_W1.out; have := sz_W1.out; have := as_W2.out; have := sz_W2.out; have := as_W3.out; have := sz_W3.out; have := sz_w4.out; try dsimp only; omega) _) (by have := as_W1.out; have := sz_W1.out; have := as_W2.out; have := sz_W2.out; have := as_W3.out; have := sz_W3.out; have := sz_w4.out; try dsimp only; omega) _)
  have sz_W5 : Hid ((((w4.setCell ⟨w.heap.size, 0, none⟩ (.slice a3 n c3)).setCell ⟨w.heap.size, 1, none⟩ (.int .i64 T)).setCell ⟨w.heap.size, 2, none⟩ (.int .i64 N)).heap.size = w4.heap.size) := hidP (by simp)
  generalize ((w4.setCell ⟨w.heap.size, 0, none⟩ (.slice a3 n c3)).setCell ⟨w.heap.size, 1, none⟩ (.int .i64 T)).setCell ⟨w.heap.size, 2, none⟩ (.int .i64 N) = W5 at *
  clear bk0_w4 bk1_w4 bk2_w4 bkF_w4 bkL_w4 at0_w4 at1_w4 at2_w4 atF_w4 atL_w4 rs0_w4 rs1_w4 rs2_w4 rsF_w4 rsL_w4 oL_w4 acc_w4
  refine (HPh.out _ a3 c3 oL_W5.out.row).mono ?_
  rintro e w6 ⟨rfl, hb6⟩
  have bk0_w6 := (hb6.cell bkL_W5).trans bk0_W5
  have bk1_w6 := (hb6.cell bkL_W5).trans bk1_W5
  have bk2_w6 := (hb6.cell bkL_W5).trans bk2_W5
  have bkF_w6 : ∀ o, w6.frozen? ⟨w.heap.size, o, none⟩ = false := fun o => (hb6.frozen bkL_W5).trans (bkF_W5 o)
  have bkL_w6 : w.heap.size < w6.heap.size := Nat.lt_of_lt_of_le bkL_W5 hb6.size
  have at0_w6 := (hb6.cell atL_W5).trans at0_W5
  have at1_w6 := (hb6.cell atL_W5).trans at1_W5
  have at2_w6 := (hb6.cell atL_W5).trans at2_W5
  have atF_w6 : ∀ o, w6.frozen? ⟨w.heap.size + 1, o, none⟩ = false := fun o => (hb6.frozen atL_W5).trans (atF_W5 o)
  have atL_w6 : w.heap.size + 1 < w6.heap.size := Nat.lt_of_lt_of_le atL_W5 hb6.size
  have rs0_w6 := (hb6.cell rsL_W5).trans rs0_W5
  have rs1_w6 := (hb6.cell rsL_W5).trans rs1_W5
  have rs2_w6 := (hb6.cell rsL_W5).trans rs2_W5
  have rsF_w6 : ∀ o, w6.frozen? ⟨w.heap.size + 1 + 1, o, none⟩ = false := fun o => (hb6.frozen rsL_W5).trans (rsF_W5 o)
  have rsL_w6 : w.heap.size + 1 + 1 < w6.heap.size := Nat.lt_of_lt_of_le rsL_W5 hb6.size
  have oL_w6 := hidP (OwnG.later oL_W5.out hb6)
  have acc_w6 := hidP (acc_W5.out.trans (hb6.mono acc_W5.out.size))
  have sz_w6 : Hid (W5.heap.size ≤ w6.heap.size) := hidP hb6.size
  clear hb6 bk0_W5 bk1_W5 bk2_W5 bkF_W5 bkL_W5 at0_W5 at1_W5 at2_W5 atF_W5 atL_W5 rs0_W5 rs1_W5 rs2_W5 rsF_W5 rsL_W5 oL_W5 acc_W5
  go_wp2_with fail
  obtain ⟨g3, rfl⟩ := own_some oL_w6.out (by omega)
  refine (delete_any g3 n c3 _ I ls w6 HN.out hI hl oL_w6.out).mono ?_
  rintro e w7 ⟨rfl, oD, hg7⟩
  have OD := hidP oD
  clear oD
  have nebk : ∀ k, (Value.slice (some ⟨g3, 0, none⟩) n c3).ownBlock = some k → k ≠ w.heap.size := fun k hk => by have h5 := lhL.out k hk; have := as_W1.out; have := sz_W1.out; have := as_W2.out; have := sz_W2.out; have := as_W3.out; have := sz_W3.out; have := sz_w4.out; have := sz_W5.out; have := sz_w6.out; omega
  have bk0_w7 := cell_grown hg7 bk0_w6 nebk
  have bk1_w7 := cell_grown hg7 bk1_w6 nebk
  have bk2_w7 := cell_grown hg7 bk2_w6 nebk
  have bkF_w7 : ∀ o, w7.frozen? ⟨w.heap.size, o, none⟩ = false := fun o => frz_grown hg7 bkL_w6 (bkF_w6 o) nebk
  have bkL_w7 : w.heap.size < w7.heap.size := Nat.lt_of_lt_of_le bkL_w6 hg7.size
  have neat : ∀ k, (Value.slice (some ⟨g3, 0, none⟩) n c3).ownBlock = some k → k ≠ w.heap.size + 1 := fun k hk => by have h5 := lhL.out k hk; have := as_W1.out; have := sz_W1.out; have := as_W2.out; have := sz_W2.out; have := as_W3.out; have := sz_W3.out; have := sz_w4.out; have := sz_W5.out; have := sz_w6.out; omega
  have at0_w7 := cell_grown hg7 at0_w6 neat
  have at1_w7 := cell_grown hg7 at1_w6 neat
  have at2_w7 := cell_grown hg7 at2_w6 neat
  have atF_w7 : ∀ o, w7.frozen? ⟨w.heap.size + 1, o, none⟩ = false := fun o => frz_grown hg7 atL_w6 (atF_w6 o) neat
  have atL_w7 : w.heap.size + 1 < w7.heap.size := Nat.lt_of_lt_of_le atL_w6 hg7.size
  have ners : ∀ k, (Value.slice (some ⟨g3, 0, none⟩) n c3).ownBlock = some k → k ≠ w.heap.size + 1 + 1 := fun k hk => by have h5 := lhL.out k hk; have := as_W1.out; have := sz_W1.out; have := as_W2.out; have := sz_W2.out; have := as_W3.out; have := sz_W3.out; have := sz_w4.out; have := sz_W5.out; have := sz_w6.out; omega
  have rs0_w7 := cell_grown hg7 rs0_w6 ners
  have rs1_w7 := cell_grown hg7 rs1_w6 ners
  have rs2_w7 := cell_grown hg7 rs2_w6 ners
  have rsF_w7 : ∀ o, w7.frozen? ⟨w.heap.size + 1 + 1, o, none⟩ = false := fun o => frz_grown hg7 rsL_w6 (rsF_w6 o) ners
  have rsL_w7 : w.heap.size + 1 + 1 < w7.heap.size := Nat.lt_of_lt_of_le rsL_w6 hg7.size
  have oL_w7 := hidP (OD.out)
  have acc_w7 := hidP (Below.grown acc_w6.out hg7 acc_w6.out.size (fun k hk => by have h5 := lhL.out k hk; have := as_W1.out; have := sz_W1.out; have := as_W2.out; have := sz_W2.out; have := as_W3.out; have := sz_W3.out; have := sz_w4.out; have := sz_W5.out; have := sz_w6.out; omega))
  have sz_w7 : Hid (w6.heap.size ≤ w7.heap.size) := hidP hg7.size
  clear hg7 bk0_w6 bk1_w6 bk2_w6 bkF_w6 bkL_w6 nebk at0_w6 at1_w6 at2_w6 atF_w6 atL_w6 neat rs0_w6 rs1_w6 rs2_w6 rsF_w6 rsL_w6 ners oL_w6 acc_w6
  clear OD
  go_wp2_with fail
  refine bodyPost_ret (v := .tuple #[.agg #[.slice (some ⟨g3, 0, none⟩) (n - 1) c3, .int .i64 T, .int .i64 N], .int .i64 0]) (by simp [results, Tryz.results12, go_sem, rs0_w7, rs1_w7, rs2_w7]) rfl ⟨_, _, rfl, ?_, ?_⟩
  · refine OwnG.mono (B := W3.heap.size) ?_ (by have := as_W1.out; have := sz_W1.out; have := as_W2.out; have := sz_W2.out; have := as_W3.out; have := sz_W3.out; have := sz_w4.out; have := sz_W5.out; have := sz_w6.out; have := sz_w7.out; omega)
    iterate 4 (with_reducible refine OwnG.grown ?_ (grown_cellG _ _ _ _) ?_; rotate_left; (focus (exact OwnG.ne_of oL_w7.out (by have := as_W1.out; have := sz_W1.out; have := as_W2.out; have := sz_W2.out; have := as_W3.out; have := sz_W3.out; have := sz_w4.out; have := sz_W5.out; have := sz_w6.out; have := sz_w7.out; omega))))
    with_reducible exact oL_w7.out
  · repeat (with_reducible refine Below.setCell ?_ ?_ _; rotate_left; (focus (first | (simp; done) | (simp; omega))))
    exact acc_w7.out

end Go.Proofs.YtddnofonodgneaaGreatDoor
namespace Go.Proofs.YtddnofonodgneaaGreatDoor
open Go.RowKit

def spB (N span : Int) : Bool := (decide (1 ≤ span) && decide (span ≤ 1000)) && decide (wrap64 (N + span) ≤ 1000000000)
theorem bk_now {ls : List Ls} {T N : Int} (h : bkB ls T N = true) : 0 ≤ N ∧ N ≤ 1000000000 := by
  unfold bkB at h
  simp only [Bool.and_eq_true, decide_eq_true_eq] at h
  exact h.1.2.2
theorem sp_wrap {N span : Int} (h : 0 ≤ N ∧ N ≤ 1000000000) (h1 : (decide (1 ≤ span) && decide (span ≤ 1000)) = true) : IntKind.i64.wrap (N + span) = N + span ∧ wrap64 (N + span) = N + span := by
  simp only [Bool.and_eq_true, decide_eq_true_eq] at h1
  have h2 : IntKind.i64.wrap (N + span) = N + span := by rw [IntKind.wrap_i64]; omega
  exact ⟨h2, by rw [show wrap64 (N + span) = IntKind.i64.wrap (N + span) by rw [IntKind.wrap_i64, wrap64]]; exact h2⟩
theorem grown_drew (w : World) (r : Option Nat) : w.grownBy w.drew r := ⟨rfl, rfl, rfl, Nat.le_refl _, fun _ _ _ => rfl⟩
set_option maxHeartbeats 1000000 in
theorem spanOk_any (a : Option Addr) (n c : Nat) (T N span : Int) (w : World) :
    Calls Tryz.prog 46 #[.agg #[.slice a n c, .int .i64 T, .int .i64 N], .int .i64 span] w fun e w' => e = .returned (.bool (spB N span)) ∧ Below w.heap.size w w' := by
  have hv : spB N span = ((decide (1 ≤ span) && decide (span ≤ 1000)) && decide (wrap64 (N + span) ≤ 1000000000)) := rfl
  rw [hv]
  clear hv
  cases h1 : decide (1 ≤ span) <;> cases h2 : decide (span ≤ 1000)
  all_goals
    go_enter Tryz.func46, Tryz.ntmps46
    go_wp2_with fail
    go_ret
    exact ⟨rfl, alloc_below w _⟩

set_option maxHeartbeats 1000000 in
theorem ptr_else (a : Option Addr) (n c : Nat) (T N : Int) (ad : Ad) (tk : Int) (span : Int) (w : World) (hs : spB N span = true) (v0 v1 : Value) (HP : ∀ W, Below w.heap.size w W → Calls Tryz.prog 35 #[.agg #[.slice a n c, .int .i64 T, .int .i64 N], .agg #[.bool ad.s, .int .i64 ad.H.toInt, .int .i64 ad.L.toInt], .int .i64 tk] W fun e w' => e = .returned (.tuple #[v0, v1]) ∧ Below W.heap.size W w') :
    Calls Tryz.prog 36 #[.agg #[.slice a n c, .int .i64 T, .int .i64 N], .agg #[.bool ad.s, .int .i64 ad.H.toInt, .int .i64 ad.L.toInt], .int .i64 tk, .int .i64 span] w fun e w' => e = .returned (.tuple #[v0, v1]) ∧ Below w.heap.size w w' := by
  have HS := hidP (spanOk_any a n c T N span)
  have HPh := hidP HP
  rw [hs] at HS
  clear HP
  go_enter Tryz.func36, Tryz.ntmps36
  go_wp2_with fail
  refine (HS.out _).mono ?_
  rintro e w2 ⟨rfl, hb2⟩
  have ac0 : w2.cell? ⟨w.heap.size + 1, 0, none⟩ = some (.bool ad.s) := (hb2.cell (by simp)).trans (by simp [go_sem])
  have ac1 : w2.cell? ⟨w.heap.size + 1, 1, none⟩ = some (.int .i64 ad.H.toInt) := (hb2.cell (by simp)).trans (by simp [go_sem])
  have ac2 : w2.cell? ⟨w.heap.size + 1, 2, none⟩ = some (.int .i64 ad.L.toInt) := (hb2.cell (by simp)).trans (by simp [go_sem])
  have bc0 : w2.cell? ⟨w.heap.size, 0, none⟩ = some (.slice a n c) := (hb2.cell (by simp; omega)).trans (by simp [go_sem])
  have bc1 : w2.cell? ⟨w.heap.size, 1, none⟩ = some (.int .i64 T) := (hb2.cell (by simp; omega)).trans (by simp [go_sem])
  have bc2 : w2.cell? ⟨w.heap.size, 2, none⟩ = some (.int .i64 N) := (hb2.cell (by simp; omega)).trans (by simp [go_sem])
  have A2 := hidP (((alloc_below w _).alloc (by simp) _).trans (hb2.mono (by simp; omega)))
  clear hb2
  go_wp2_with fail
  refine (HPh.out _ A2.out).mono ?_
  rintro e w3 ⟨rfl, hb3⟩
  have A3 := hidP (A2.out.trans (hb3.mono A2.out.size))
  clear hb3
  go_wp2_with fail
  refine bodyPost_ret (v := .tuple #[v0, v1]) (by simp [results, Tryz.results36, go_sem]) rfl ?_
  exact ⟨rfl, A3.out⟩

set_option maxRecDepth 10000 in
set_option maxHeartbeats 4000000 in
theorem iRen_no (a : Option Addr) (n c : Nat) (T N : Int) (ls : List Ls) (ad : Ad) (tk : Int) (span : Int) (w : World) (hn : n = ls.length) (hB : RowG KLs w a ls) (hl : n ≤ 1048576) (x : Int) (HP : ∀ W a c, RowG KLs W a ls → Calls Tryz.prog 36 #[.agg #[.slice a n c, .int .i64 T, .int .i64 N], .agg #[.bool ad.s, .int .i64 ad.H.toInt, .int .i64 ad.L.toInt], .int .i64 tk, .int .i64 span] W fun e w' => e = .returned (.tuple #[.int .i64 0, .iface 89 (.agg #[.int .i64 x])]) ∧ Below W.heap.size W w') (hg : GlobE w) :
    Calls Tryz.prog 11 #[.agg #[.slice a n c, .int .i64 T, .int .i64 N], .agg #[.bool ad.s, .int .i64 ad.H.toInt, .int .i64 ad.L.toInt], .int .i64 tk, .int .i64 span] w fun e w' => ∃ a' c', e = .returned (.tuple #[.agg #[.slice a' n c', .int .i64 T, .int .i64 N], .int .i64 x]) ∧ OwnG KLs 35 w' w.heap.size (.slice a' n c') (ls) ∧ Below w.heap.size w w' := by
  have HOw := hidP (fun W h => ownBook_any a n c T N ls W hn (hB.later h) hl)
  have HPh := hidP HP
  have HN := hidP hn
  clear hB hn HP
  have HG := hidP hg
  clear hg
  go_enter Tryz.func11, Tryz.ntmps11
  go_wp2_with fail
  obtain ⟨bk0_W1, bk1_W1, bk2_W1⟩ := box3B w 26 (.slice a n c) (.int .i64 T) (.int .i64 N)
  have bkF_W1 : ∀ o, (w.alloc (.cells #[.slice a n c, .int .i64 T, .int .i64 N] 26)).frozen? ⟨w.heap.size, o, none⟩ = false := fun o => by simp [go_sem]
  have bkL_W1 : w.heap.size < (w.alloc (.cells #[.slice a n c, .int .i64 T, .int .i64 N] 26)).heap.size := by simp
  have ab_W1 := alloc_below w (.cells #[.slice a n c, .int .i64 T, .int .i64 N] 26)
  have as_W1 : Hid ((w.alloc (.cells #[.slice a n c, .int .i64 T, .int .i64 N] 26)).heap.size = w.heap.size + 1) := hidP (by simp)
  generalize w.alloc (.cells #[.slice a n c, .int .i64 T, .int .i64 N] 26) = W1 at *
  have acc_W1 := hidP (ab_W1)
  have sz_W1 : Hid (w.heap.size ≤ W1.heap.size) := hidP ab_W1.size
  clear ab_W1 
  obtain ⟨at0_W2, at1_W2, at2_W2⟩ := box3B W1 28 (.bool ad.s) (.int .i64 ad.H.toInt) (.int .i64 ad.L.toInt)
  have atF_W2 : ∀ o, (W1.alloc (.cells #[.bool ad.s, .int .i64 ad.H.toInt, .int .i64 ad.L.toInt] 28)).frozen? ⟨W1.heap.size, o, none⟩ = false := fun o => by simp [go_sem]
  have atL_W2 : W1.heap.size < (W1.alloc (.cells #[.bool ad.s, .int .i64 ad.H.toInt, .int .i64 ad.L.toInt] 28)).heap.size := by simp
  have ab_W2 := alloc_below W1 (.cells #[.bool ad.s, .int .i64 ad.H.toInt, .int .i64 ad.L.toInt] 28)
  have as_W2 : Hid ((W1.alloc (.cells #[.bool ad.s, .int .i64 ad.H.toInt, .int .i64 ad.L.toInt] 28)).heap.size = W1.heap.size + 1) := hidP (by simp)
  generalize W1.alloc (.cells #[.bool ad.s, .int .i64 ad.H.toInt, .int .i64 ad.L.toInt] 28) = W2 at *
  have bk0_W2 := (ab_W2.cell bkL_W1).trans bk0_W1
  have bk1_W2 := (ab_W2.cell bkL_W1).trans bk1_W1
  have bk2_W2 := (ab_W2.cell bkL_W1).trans bk2_W1
  have bkF_W2 : ∀ o, W2.frozen? ⟨w.heap.size, o, none⟩ = false := fun o => (ab_W2.frozen bkL_W1).trans (bkF_W1 o)
  have bkL_W2 : w.heap.size < W2.heap.size := Nat.lt_of_lt_of_le bkL_W1 ab_W2.size
  have acc_W2 := hidP (acc_W1.out.trans (ab_W2.mono acc_W1.out.size))
  have sz_W2 : Hid (W1.heap.size ≤ W2.heap.size) := hidP ab_W2.size
  clear ab_W2 bk0_W1 bk1_W1 bk2_W1 bkF_W1 bkL_W1 acc_W1
  rw [as_W1.out] at at0_W2 at1_W2 at2_W2 atL_W2
  have atF_W2' : ∀ o, W2.frozen? ⟨w.heap.size + 1, o, none⟩ = false := fun o => by have := atF_W2 o; rw [as_W1.out] at this; exact this
  clear atF_W2
  have atF_W2 := atF_W2'
  clear atF_W2'
  obtain ⟨rs0_W3, rs1_W3, rs2_W3⟩ := box3B W2 26 (.slice none 0 0) (.int .i64 0) (.int .i64 0)
  have rsF_W3 : ∀ o, (W2.alloc (.cells #[.slice none 0 0, .int .i64 0, .int .i64 0] 26)).frozen? ⟨W2.heap.size, o, none⟩ = false := fun o => by simp [go_sem]
  have rsL_W3 : W2.heap.size < (W2.alloc (.cells #[.slice none 0 0, .int .i64 0, .int .i64 0] 26)).heap.size := by simp
  have ab_W3 := alloc_below W2 (.cells #[.slice none 0 0, .int .i64 0, .int .i64 0] 26)
  have as_W3 : Hid ((W2.alloc (.cells #[.slice none 0 0, .int .i64 0, .int .i64 0] 26)).heap.size = W2.heap.size + 1) := hidP (by simp)
  generalize W2.alloc (.cells #[.slice none 0 0, .int .i64 0, .int .i64 0] 26) = W3 at *
  have bk0_W3 := (ab_W3.cell bkL_W2).trans bk0_W2
  have bk1_W3 := (ab_W3.cell bkL_W2).trans bk1_W2
  have bk2_W3 := (ab_W3.cell bkL_W2).trans bk2_W2
  have bkF_W3 : ∀ o, W3.frozen? ⟨w.heap.size, o, none⟩ = false := fun o => (ab_W3.frozen bkL_W2).trans (bkF_W2 o)
  have bkL_W3 : w.heap.size < W3.heap.size := Nat.lt_of_lt_of_le bkL_W2 ab_W3.size
  have at0_W3 := (ab_W3.cell atL_W2).trans at0_W2
  have at1_W3 := (ab_W3.cell atL_W2).trans at1_W2
  have at2_W3 := (ab_W3.cell atL_W2).trans at2_W2
  have atF_W3 : ∀ o, W3.frozen? ⟨w.heap.size + 1, o, none⟩ = false := fun o => (ab_W3.frozen atL_W2).trans (atF_W2 o)
  have atL_W3 : w.heap.size + 1 < W3.heap.size := Nat.lt_of_lt_of_le atL_W2 ab_W3.size
  have acc_W3 := hidP (acc_W2.out.trans (ab_W3.mono acc_W2.out.size))
  have sz_W3 : Hid (W2.heap.size ≤ W3.heap.size) := hidP ab_W3.size
  clear ab_W3 bk0_W2 bk1_W2 bk2_W2 bkF_W2 bkL_W2 at0_W2 at1_W2 at2_W2 atF_W2 atL_W2 acc_W2
  rw [as_W2.out, as_W1.out] at rs0_W3 rs1_W3 rs2_W3 rsL_W3
  have rsF_W3' : ∀ o, W3.frozen? ⟨w.heap.size + 1 + 1, o, none⟩ = false := fun o => by have := rsF_W3 o; rw [as_W2.out, as_W1.out] at this; exact this
  clear rsF_W3
  have rsF_W3 := rsF_W3'
  clear rsF_W3'
  refine (HOw.out _ acc_W3.out).mono ?_
  rintro e w4 ⟨a3, c3, rfl, og3, hb4⟩
  have og3' := hidP og3
  clear og3
  have bk0_w4 := (hb4.cell bkL_W3).trans bk0_W3
  have bk1_w4 := (hb4.cell bkL_W3).trans bk1_W3
  have bk2_w4 := (hb4.cell bkL_W3).trans bk2_W3
  have bkF_w4 : ∀ o, w4.frozen? ⟨w.heap.size, o, none⟩ = false := fun o => (hb4.frozen bkL_W3).trans (bkF_W3 o)
  have bkL_w4 : w.heap.size < w4.heap.size := Nat.lt_of_lt_of_le bkL_W3 hb4.size
  have at0_w4 := (hb4.cell atL_W3).trans at0_W3
  have at1_w4 := (hb4.cell atL_W3).trans at1_W3
  have at2_w4 := (hb4.cell atL_W3).trans at2_W3
  have atF_w4 : ∀ o, w4.frozen? ⟨w.heap.size + 1, o, none⟩ = false := fun o => (hb4.frozen atL_W3).trans (atF_W3 o)
  have atL_w4 : w.heap.size + 1 < w4.heap.size := Nat.lt_of_lt_of_le atL_W3 hb4.size
  have rs0_w4 := (hb4.cell rsL_W3).trans rs0_W3
  have rs1_w4 := (hb4.cell rsL_W3).trans rs1_W3
  have rs2_w4 := (hb4.cell rsL_W3).trans rs2_W3
  have rsF_w4 : ∀ o, w4.frozen? ⟨w.heap.size + 1 + 1, o, none⟩ = false := fun o => (hb4.frozen rsL_W3).trans (rsF_W3 o)
  have rsL_w4 : w.heap.size + 1 + 1 < w4.heap.size := Nat.lt_of_lt_of_le rsL_W3 hb4.size
  have acc_w4 := hidP (acc_W3.out.trans (hb4.mono acc_W3.out.size))
  have sz_w4 : Hid (W3.heap.size ≤ w4.heap.size) := hidP hb4.size
  clear hb4 bk0_W3 bk1_W3 bk2_W3 bkF_W3 bkL_W3 at0_W3 at1_W3 at2_W3 atF_W3 atL_W3 rs0_W3 rs1_W3 rs2_W3 rsF_W3 rsL_W3 acc_W3
  have oL_w4 := hidP (og3'.out)
  have lhL : Hid (∀ k, (Value.slice a3 n c3).ownBlock = some k → W3.heap.size ≤ k ∧ k < w4.heap.size) := hidP (fun k hk => OwnG.lt oL_w4.out k hk)
  clear og3'
  go_wp2_with fail
  have bk0_W5 : (((w4.setCell ⟨w.heap.size, 0, none⟩ (.slice a3 n c3)).setCell ⟨w.heap.size, 1, none⟩ (.int .i64 T)).setCell ⟨w.heap.size, 2, none⟩ (.int .i64 N)).cell? ⟨w.heap.size, 0, none⟩ = some (.slice a3 n c3) := by simp [go_sem, bk0_w4]
  have bk1_W5 : (((w4.setCell ⟨w.heap.size, 0, none⟩ (.slice a3 n c3)).setCell ⟨w.heap.size, 1, none⟩ (.int .i64 T)).setCell ⟨w.heap.size, 2, none⟩ (.int .i64 N)).cell? ⟨w.heap.size, 1, none⟩ = some (.int .i64 T) := by simp [go_sem, bk1_w4]
  have bk2_W5 : (((w4.setCell ⟨w.heap.size, 0, none⟩ (.slice a3 n c3)).setCell ⟨w.heap.size, 1, none⟩ (.int .i64 T)).setCell ⟨w.heap.size, 2, none⟩ (.int .i64 N)).cell? ⟨w.heap.size, 2, none⟩ = some (.int .i64 N) := by simp [go_sem, bk2_w4]
  have bkF_W5 : ∀ o, (((w4.setCell ⟨w.heap.size, 0, none⟩ (.slice a3 n c3)).setCell ⟨w.heap.size, 1, none⟩ (.int .i64 T)).setCell ⟨w.heap.size, 2, none⟩ (.int .i64 N)).frozen? ⟨w.heap.size, o, none⟩ = false := fun o => frz_set1 (frz_set1 (frz_set1 ((bkF_w4 o))))
  have bkL_W5 : w.heap.size < (((w4.setCell ⟨w.heap.size, 0, none⟩ (.slice a3 n c3)).setCell ⟨w.heap.size, 1, none⟩ (.int .i64 T)).setCell ⟨w.heap.size, 2, none⟩ (.int .i64 N)).heap.size := by simpa using bkL_w4
  have at0_W5 : (((w4.setCell ⟨w.heap.size, 0, none⟩ (.slice a3 n c3)).setCell ⟨w.heap.size, 1, none⟩ (.int .i64 T)).setCell ⟨w.heap.size, 2, none⟩ (.int .i64 N)).cell? ⟨w.heap.size + 1, 0, none⟩ = some (.bool ad.s) := cell_set1 (cell_set1 (cell_set1 (at0_w4) (by have := as_W1.out; have := sz_W1.out; have := as_W2.out; have := sz_W2.out; have := as_W3.out; have := sz_W3.out; have := sz_w4.out; omega)) (by have := as_W1.out; have := sz_W1.out; have := as_W2.out; have := sz_W2.out; have := as_W3.out; have := sz_W3.out; have := sz_w4.out; omega)) (by have := as_W1.out; have := sz_W1.out; have := as_W2.out; have := sz_W2.out; have := as_W3.out; have := sz_W3.out; have := sz_w4.out; omega)
  have at1_W5 : (((w4.setCell ⟨w.heap.size, 0, none⟩ (.slice a3 n c3)).setCell ⟨w.heap.size, 1, none⟩ (.int .i64 T)).setCell ⟨w.heap.size, 2, none⟩ (.int .i64 N)).cell? ⟨w.heap.size + 1, 1, none⟩ = some (.int .i64 ad.H.toInt) := cell_set1 (cell_set1 (cell_set1 (at1_w4) (by have := as_W1.out; have := sz_W1.out; have := as_W2.out; have := sz_W2.out; have := as_W3.out; have := sz_W3.out; have := sz_w4.out; omega)) (by have := as_W1.out; have := sz_W1.out; have := as_W2.out; have := sz_W2.out; have := as_W3.out; have := sz_W3.out; have := sz_w4.out; omega)) (by have := as_W1.out; have := sz_W1.out; have := as_W2.out; have := sz_W2.out; have := as_W3.out; have := sz_W3.out; have := sz_w4.out; omega)
  have at2_W5 : (((w4.setCell ⟨w.heap.size, 0, none⟩ (.slice a3 n c3)).setCell ⟨w.heap.size, 1, none⟩ (.int .i64 T)).setCell ⟨w.heap.size, 2, none⟩ (.int .i64 N)).cell? ⟨w.heap.size + 1, 2, none⟩ = some (.int .i64 ad.L.toInt) := cell_set1 (cell_set1 (cell_set1 (at2_w4) (by have := as_W1.out; have := sz_W1.out; have := as_W2.out; have := sz_W2.out; have := as_W3.out; have := sz_W3.out; have := sz_w4.out; omega)) (by have := as_W1.out; have := sz_W1.out; have := as_W2.out; have := sz_W2.out; have := as_W3.out; have := sz_W3.out; have := sz_w4.out; omega)) (by have := as_W1.out; have := sz_W1.out; have := as_W2.out; have := sz_W2.out; have := as_W3.out; have := sz_W3.out; have := sz_w4.out; omega)
  have atF_W5 : ∀ o, (((w4.setCell ⟨w.heap.size, 0, none⟩ (.slice a3 n c3)).setCell ⟨w.heap.size, 1, none⟩ (.int .i64 T)).setCell ⟨w.heap.size, 2, none⟩ (.int .i64 N)).frozen? ⟨w.heap.size + 1, o, none⟩ = false := fun o => frz_set1 (frz_set1 (frz_set1 ((atF_w4 o))))
  have atL_W5 : w.heap.size + 1 < (((w4.setCell ⟨w.heap.size, 0, none⟩ (.slice a3 n c3)).setCell ⟨w.heap.size, 1, none⟩ (.int .i64 T)).setCell ⟨w.heap.size, 2, none⟩ (.int .i64 N)).heap.size := by simpa using atL_w4
  have rs0_W5 : (((w4.setCell ⟨w.heap.size, 0, none⟩ (.slice a3 n c3)).setCell ⟨w.heap.size, 1, none⟩ (.int .i64 T)).setCell ⟨w.heap.size, 2, none⟩ (.int .i64 N)).cell? ⟨w.heap.size + 1 + 1, 0, none⟩ = some (.slice none 0 0) := cell_set1 (cell_set1 (cell_set1 (rs0_w4) (by have := as_W1.out; have := sz_W1.out; have := as_W2.out; have := sz_W2.out; have := as_W3.out; have := sz_W3.out; have := sz_w4.out; omega)) (by have := as_W1.out; have := sz_W1.out; have := as_W2.out; have := sz_W2.out; have := as_W3.out; have := sz_W3.out; have := sz_w4.out; omega)) (by have := as_W1.out; have := sz_W1.out; have := as_W2.out; have := sz_W2.out; have := as_W3.out; have := sz_W3.out; have := sz_w4.out; omega)
  have rs1_W5 : (((w4.setCell ⟨w.heap.size, 0, none⟩ (.slice a3 n c3)).setCell ⟨w.heap.size, 1, none⟩ (.int .i64 T)).setCell ⟨w.heap.size, 2, none⟩ (.int .i64 N)).cell? ⟨w.heap.size + 1 + 1, 1, none⟩ = some (.int .i64 0) := cell_set1 (cell_set1 (cell_set1 (rs1_w4) (by have := as_W1.out; have := sz_W1.out; have := as_W2.out; have := sz_W2.out; have := as_W3.out; have := sz_W3.out; have := sz_w4.out; omega)) (by have := as_W1.out; have := sz_W1.out; have := as_W2.out; have := sz_W2.out; have := as_W3.out; have := sz_W3.out; have := sz_w4.out; omega)) (by have := as_W1.out; have := sz_W1.out; have := as_W2.out; have := sz_W2.out; have := as_W3.out; have := sz_W3.out; have := sz_w4.out; omega)
  have rs2_W5 : (((w4.setCell ⟨w.heap.size, 0, none⟩ (.slice a3 n c3)).setCell ⟨w.heap.size, 1, none⟩ (.int .i64 T)).setCell ⟨w.heap.size, 2, none⟩ (.int .i64 N)).cell? ⟨w.heap.size + 1 + 1, 2, none⟩ = some (.int .i64 0) := cell_set1 (cell_set1 (cell_set1 (rs2_w4) (by have := as_W1.out; have := sz_W1.out; have := as_W2.out; have := sz_W2.out; have := as_W3.out; have := sz_W3.out; have := sz_w4.out; omega)) (by have := as_W1.out; have := sz_W1.out; have := as_W2.out; have := sz_W2.out; have := as_W3.out; have := sz_W3.out; have := sz_w4.out; omega)) (by have := as_W1.out; have := sz_W1.out; have := as_W2.out; have := sz_W2.out; have := as_W3.out; have := sz_W3.out; have := sz_w4.out; omega)
  have rsF_W5 : ∀ o, (((w4.setCell ⟨w.heap.size, 0, none⟩ (.slice a3 n c3)).setCell ⟨w.heap.size, 1, none⟩ (.int .i64 T)).setCell ⟨w.heap.size, 2, none⟩ (.int .i64 N)).frozen? ⟨w.heap.size + 1 + 1, o, none⟩ = false := fun o => frz_set1 (frz_set1 (frz_set1 ((rsF_w4 o))))
  have rsL_W5 : w.heap.size + 1 + 1 < (((w4.setCell ⟨w.heap.size, 0, none⟩ (.slice a3 n c3)).setCell ⟨w.heap.size, 1, none⟩ (.int .i64 T)).setCell ⟨w.heap.size, 2, none⟩ (.int .i64 N)).heap.size := by simpa using rsL_w4
  have oL_W5 : Hid (OwnG KLs 35 (((w4.setCell ⟨w.heap.size, 0, none⟩ (.slice a3 n c3)).setCell ⟨w.heap.size, 1, none⟩ (.int .i64 T)).setCell ⟨w.heap.size, 2, none⟩ (.int .i64 N)) (W3.heap.size) (.slice a3 n c3) (ls)) := hidP (OwnG.grown (OwnG.grown (OwnG.grown (oL_w4.out) (grown_cellG _ _ _ _) (OwnG.ne_of oL_w4.out (by have := as_W1.out; have := sz_W1.out; have := as_W2.out; have := sz_W2.out; have := as_W3.out; have := sz_W3.out; have := sz_w4.out; omega))) (grown_cellG _ _ _ _) (OwnG.ne_of oL_w4.out (by have := as_W1.out; have := sz_W1.out; have := as_W2.out; have := sz_W2.out; have := as_W3.out; have := sz_W3.out; have := sz_w4.out; omega))) (grown_cellG _ _ _ _) (OwnG.ne_of oL_w4.out (by have := as_W1.out; have := sz_W1.out; have := as_W2.out; have := sz_W2.out; have := as_W3.out; have := sz_W3.out; have := sz_w4.out; omega)))
  have acc_W5 : Hid (Below w.heap.size w (((w4.setCell ⟨w.heap.size, 0, none⟩ (.slice a3 n c3)).setCell ⟨w.heap.size, 1, none⟩ (.int .i64 T)).setCell ⟨w.heap.size, 2, none⟩ (.int .i64 N))) := hidP (Below.setCell (Below.setCell (Below.setCell (acc_w4.out) (by have := as_W1.out; have := sz_W1.out; have := as_W2.out; have := sz_W2.out; have := as_W3.out; have := sz_W3.out; have := sz_w4.out; try dsimp only; omega) _) (by have := as_W1.out; have := sz_W1.out; have := as_W2.out; have := sz_W2.out; have := as_W3.out; have := sz_W3.out; have := sz_w4.out; try dsimp only; omega) _) (by have := as_W1.out; have := sz_W1.out; have := as_W2.out; have := sz_W2.out; have := as_W3.out; have := sz_W3.out; have := sz_w4.out; try dsimp only; omega) _)
  have sz_W5 : Hid ((((w4.setCell ⟨w.heap.size, 0, none⟩ (.slice a3 n c3)).setCell ⟨w.heap.size, 1, none⟩ (.int .i64 T)).setCell ⟨w.heap.size, 2, none⟩ (.int .i64 N)).heap.size = w4.heap.size) := hidP (by simp)
  generalize ((w4.setCell ⟨w.heap.size, 0, none⟩ (.slice a3 n c3)).setCell ⟨w.heap.size, 1, none⟩ (.int .i64 T)).setCell ⟨w.heap.size, 2, none⟩ (.int .i64 N) = W5 at *
  clear bk0_w4 bk1_w4 bk2_w4 bkF_w4 bkL_w4 at0_w4 at1_w4 at2_w4 atF_w4 atL_w4 rs0_w4 rs1_w4 rs2_w4 rsF_w4 rsL_w4 oL_w4 acc_w4
  refine (HPh.out _ a3 c3 oL_W5.out.row).mono ?_
  rintro e w6 ⟨rfl, hb6⟩
  have bk0_w6 := (hb6.cell bkL_W5).trans bk0_W5
  have bk1_w6 := (hb6.cell bkL_W5).trans bk1_W5
  have bk2_w6 := (hb6.cell bkL_W5).trans bk2_W5
  have bkF_w6 : ∀ o, w6.frozen? ⟨w.heap.size, o, none⟩ = false := fun o => (hb6.frozen bkL_W5).trans (bkF_W5 o)
  have bkL_w6 : w.heap.size < w6.heap.size := Nat.lt_of_lt_of_le bkL_W5 hb6.size
  have at0_w6 := (hb6.cell atL_W5).trans at0_W5
  have at1_w6 := (hb6.cell atL_W5).trans at1_W5
  have at2_w6 := (hb6.cell atL_W5).trans at2_W5
  have atF_w6 : ∀ o, w6.frozen? ⟨w.heap.size + 1, o, none⟩ = false := fun o => (hb6.frozen atL_W5).trans (atF_W5 o)
  have atL_w6 : w.heap.size + 1 < w6.heap.size := Nat.lt_of_lt_of_le atL_W5 hb6.size
  have rs0_w6 := (hb6.cell rsL_W5).trans rs0_W5
  have rs1_w6 := (hb6.cell rsL_W5).trans rs1_W5
  have rs2_w6 := (hb6.cell rsL_W5).trans rs2_W5
  have rsF_w6 : ∀ o, w6.frozen? ⟨w.heap.size + 1 + 1, o, none⟩ = false := fun o => (hb6.frozen rsL_W5).trans (rsF_W5 o)
  have rsL_w6 : w.heap.size + 1 + 1 < w6.heap.size := Nat.lt_of_lt_of_le rsL_W5 hb6.size
  have oL_w6 := hidP (OwnG.later oL_W5.out hb6)
  have acc_w6 := hidP (acc_W5.out.trans (hb6.mono acc_W5.out.size))
  have sz_w6 : Hid (W5.heap.size ≤ w6.heap.size) := hidP hb6.size
  clear hb6 bk0_W5 bk1_W5 bk2_W5 bkF_W5 bkL_W5 at0_W5 at1_W5 at2_W5 atF_W5 atL_W5 rs0_W5 rs1_W5 rs2_W5 rsF_W5 rsL_W5 oL_W5 acc_W5
  go_wp2_with fail
  have hBW : w.heap.size + 1 + 1 ≤ w6.heap.size := (by have := as_W1.out; have := sz_W1.out; have := as_W2.out; have := sz_W2.out; have := as_W3.out; have := sz_W3.out; have := sz_w4.out; have := sz_W5.out; have := sz_w6.out; omega)
  have l0 : w.heap.size < w.heap.size + 1 + 1 := by omega
  have HSx : Hid (∀ x, Below (w.heap.size + 1 + 1) w6 x → (x.cell? ⟨w.heap.size, 0, none⟩ = some (.slice a3 n c3) ∧ x.cell? ⟨w.heap.size, 1, none⟩ = some (.int .i64 T) ∧ x.cell? ⟨w.heap.size, 2, none⟩ = some (.int .i64 N) ∧ Below (w.heap.size + 1 + 1) w6 x)) := hidP fun x h =>
    ⟨(h.cell l0).trans bk0_w6, (h.cell l0).trans bk1_w6, (h.cell l0).trans bk2_w6, h⟩
  refine wp_region_held_drew (S := (fun x => x.cell? ⟨w.heap.size, 0, none⟩ = some (.slice a3 n c3) ∧ x.cell? ⟨w.heap.size, 1, none⟩ = some (.int .i64 T) ∧ x.cell? ⟨w.heap.size, 2, none⟩ = some (.int .i64 N) ∧ Below (w.heap.size + 1 + 1) w6 x)) (by kernel_rfl) ?_ (fun hHeld => ?_)
  · try dsimp only
    exact HSx.out _ (Below.refl _ _).drew
  refine tkA 0 24 (v := ?_) rfl (by kernel_rfl) (fun _ _ _ h => h) (by rfl) ?_ (by assumption) ?_; rotate_left; · (intro w hSw; (try dsimp only at hSw); go_simp; try with_reducible rfl)
  simp only [Act.put, List.setIfInBounds_toArray, List.set_cons_zero, List.set_cons_succ]
  refine tkA 1 25 (v := ?_) rfl (by kernel_rfl) (fun _ _ _ h => h) (by rfl) ?_ (by assumption) ?_; rotate_left; · (intro w hSw; (try dsimp only at hSw); go_simp; try with_reducible rfl)
  simp only [Act.put, List.setIfInBounds_toArray, List.set_cons_zero, List.set_cons_succ]
  refine wpAnyH_ready (rs := [2]) (by kernel_rfl) (by simp) ?_
  refine AllReadyH.cons rfl (fun K hK => ?_) AllReadyH.nil
  go_simp
  go_wp2_with (first | (go_at_call 26; refine (leaseCode_any x _ (HG.out.later (acc_w6.out.trans (Below.mono (Below.refl _ _).drew (by have := acc_w6.out.size; omega))))).mono ?_; rintro e w7 ⟨rfl, hb7⟩; have b7 := (hHeld.2.2.2).trans (hb7.mono (Nat.le_trans hBW (hHeld.2.2.2).size))))
  refine hK.out _ _ ?_ (fun hHeld => ?_)
  · try dsimp only
    exact HSx.out _ b7
  clear hK K
  have r0 := (hb7.cell (show w.heap.size + 1 + 1 < w6.heap.size from rsL_w6)).trans rs0_w6
  have r1 := (hb7.cell (show w.heap.size + 1 + 1 < w6.heap.size from rsL_w6)).trans rs1_w6
  have r2 := (hb7.cell (show w.heap.size + 1 + 1 < w6.heap.size from rsL_w6)).trans rs2_w6
  have rF : ∀ o, w7.frozen? ⟨w.heap.size + 1 + 1, o, none⟩ = false := fun o => (hb7.frozen (show w.heap.size + 1 + 1 < w6.heap.size from rsL_w6)).trans (rsF_w6 o)
  refine wpAnyH_ready (rs := [3]) (by kernel_rfl) (by simp) ?_
  refine AllReadyH.cons rfl (fun K hK => ?_) AllReadyH.nil
  go_simp
  refine hK.out _ _ ?_ (fun hHeld => ?_)
  · try dsimp only
    refine HSx.out _ ?_
    repeat (with_reducible refine Below.setCell ?_ ?_ _; rotate_left; (focus (first | (simp; done) | (simp; omega))))
    exact b7
  clear hK K
  refine tkA 4 9 (v := ?_) rfl (by kernel_rfl) (fun _ _ _ h => h) (by rfl) ?_ (by assumption) ?_; rotate_left; · (intro w hSw; (try dsimp only at hSw); go_simp; try with_reducible rfl)
  simp only [Act.put, List.setIfInBounds_toArray]
  have HE := hidP (hHeld.2.2.2)
  refine wpAnyH_done (by kernel_rfl) ?_ _
  clear hHeld
  have b7' : Below w6.heap.size w6 w7 := by have := hb7; exact (Below.refl _ _).drew.trans this
  clear HE HSx b7 hb7
  have bk0_w7 := (b7'.cell bkL_w6).trans bk0_w6
  have bk1_w7 := (b7'.cell bkL_w6).trans bk1_w6
  have bk2_w7 := (b7'.cell bkL_w6).trans bk2_w6
  have bkF_w7 : ∀ o, w7.frozen? ⟨w.heap.size, o, none⟩ = false := fun o => (b7'.frozen bkL_w6).trans (bkF_w6 o)
  have bkL_w7 : w.heap.size < w7.heap.size := Nat.lt_of_lt_of_le bkL_w6 b7'.size
  have at0_w7 := (b7'.cell atL_w6).trans at0_w6
  have at1_w7 := (b7'.cell atL_w6).trans at1_w6
  have at2_w7 := (b7'.cell atL_w6).trans at2_w6
  have atF_w7 : ∀ o, w7.frozen? ⟨w.heap.size + 1, o, none⟩ = false := fun o => (b7'.frozen atL_w6).trans (atF_w6 o)
  have atL_w7 : w.heap.size + 1 < w7.heap.size := Nat.lt_of_lt_of_le atL_w6 b7'.size
  have rs0_w7 := (b7'.cell rsL_w6).trans rs0_w6
  have rs1_w7 := (b7'.cell rsL_w6).trans rs1_w6
  have rs2_w7 := (b7'.cell rsL_w6).trans rs2_w6
  have rsF_w7 : ∀ o, w7.frozen? ⟨w.heap.size + 1 + 1, o, none⟩ = false := fun o => (b7'.frozen rsL_w6).trans (rsF_w6 o)
  have rsL_w7 : w.heap.size + 1 + 1 < w7.heap.size := Nat.lt_of_lt_of_le rsL_w6 b7'.size
  have oL_w7 := hidP (OwnG.later oL_w6.out b7')
  have acc_w7 := hidP (acc_w6.out.trans (b7'.mono acc_w6.out.size))
  have sz_w7 : Hid (w6.heap.size ≤ w7.heap.size) := hidP b7'.size
  clear b7' bk0_w6 bk1_w6 bk2_w6 bkF_w6 bkL_w6 at0_w6 at1_w6 at2_w6 atF_w6 atL_w6 rs0_w6 rs1_w6 rs2_w6 rsF_w6 rsL_w6 oL_w6 acc_w6
  go_wp2_with fail
  refine bodyPost_ret (v := .tuple #[.agg #[.slice a3 n c3, .int .i64 T, .int .i64 N], .int .i64 x]) (by simp [results, Tryz.results11, go_sem, rs0_w7, rs1_w7, rs2_w7]) rfl ⟨_, _, rfl, ?_, ?_⟩
  · refine OwnG.mono (B := W3.heap.size) ?_ (by have := as_W1.out; have := sz_W1.out; have := as_W2.out; have := sz_W2.out; have := as_W3.out; have := sz_W3.out; have := sz_w4.out; have := sz_W5.out; have := sz_w6.out; have := sz_w7.out; omega)
    iterate 3 (with_reducible refine OwnG.grown ?_ (grown_cellG _ _ _ _) ?_; rotate_left; (focus (exact OwnG.ne_of oL_w7.out (by have := as_W1.out; have := sz_W1.out; have := as_W2.out; have := sz_W2.out; have := as_W3.out; have := sz_W3.out; have := sz_w4.out; have := sz_W5.out; have := sz_w6.out; have := sz_w7.out; omega))))
    with_reducible exact oL_w7.out
  · repeat (with_reducible refine Below.setCell ?_ ?_ _; rotate_left; (focus (first | (simp; done) | (simp; omega))))
    exact acc_w7.out

end Go.Proofs.YtddnofonodgneaaGreatDoor
namespace Go.Proofs.YtddnofonodgneaaGreatDoor
open Go.RowKit

def gokB (ls : List Ls) (T N : Int) (ad : Ad) (own : ByteArray) (span : Int) : Bool := bkB ls T N && (ad.ok && (ownB own && (((decide (1 ≤ span) && decide (span ≤ 1000)) && decide (N + span ≤ 1000000000)) && !(T == 1000000000))))
/-- The place where an address comes in. -/
def LowAt (ls : List Ls) (ad : Ad) (i : Nat) : Prop := i ≤ ls.length ∧ (∀ (j : Nat) (q : Ls), j < i → ls[j]? = some q → q.a.key < ad.key) ∧ (∀ (j : Nat) (q : Ls), i ≤ j → ls[j]? = some q → ad.key ≤ q.a.key)
theorem low_le {ls : List Ls} {ad : Ad} {i j : Nat} (h : LowAt ls ad i) (g : LowAt ls ad j) : i ≤ j := by
  rcases Nat.lt_or_ge j i with hl | hl
  · have hj : j < ls.length := by have := h.1; omega
    have h1 := h.2.1 j ls[j] hl (List.getElem?_eq_getElem hj)
    have h2 := g.2.2 j ls[j] (Nat.le_refl _) (List.getElem?_eq_getElem hj)
    omega
  · exact hl
theorem low_one {ls : List Ls} {ad : Ad} {i j : Nat} (h : LowAt ls ad i) (g : LowAt ls ad j) : i = j := Nat.le_antisymm (low_le h g) (low_le g h)

end Go.Proofs.YtddnofonodgneaaGreatDoor
namespace Go.Proofs.YtddnofonodgneaaGreatDoor
open Go.RowKit

theorem RowG.takeG {α : Type} {K : Kd α} {w : World} {a : Option Addr} {ps : List α} (h : RowG K w a ps) (i : Nat) : RowG K w a (ps.take i) := fun j hj => by
  rw [List.length_take] at hj
  obtain ⟨p, o, q, ha, hp, hq, c⟩ := h j (by omega)
  exact ⟨p, o, q, ha, hp, by rw [List.getElem?_take, if_pos (by omega)]; exact hq, c⟩
theorem RowG.fromG {α : Type} {K : Kd α} {w : World} {g : Nat} {ps : List α} (h : RowG K w (some ⟨g, 0, none⟩) ps) (j : Nat) : RowG K w (some ⟨g, j * K.k, none⟩) (ps.drop j) := fun i hi => by
  rw [List.length_drop] at hi
  obtain ⟨p, o, q, ha, hp, hq, c⟩ := h (j + i) (by omega)
  simp only [Option.some.injEq, Addr.mk.injEq, and_true] at ha
  obtain ⟨rfl, rfl⟩ := ha
  refine ⟨_, _, q, rfl, hp, by rw [List.getElem?_drop]; exact hq, fun x v hv => ?_⟩
  have := c x v hv
  rw [Nat.zero_add, Nat.add_mul] at this
  exact this

set_option maxRecDepth 10000 in
set_option maxHeartbeats 4000000 in
theorem sRel_form (a : Option Addr) (n c : Nat) (T N : Int) (ls : List Ls) (ad : Ad) (tk : Int) (w : World) (hn : n = ls.length) (hB : RowG KLs w a ls) (hl : n ≤ 1048576) (hc : a = none → c = 0) (hst : ∀ q ∈ ls, q.t.size ≤ 9223372036854775807) (hr : (bkB ls T N && ad.ok) = false) :
    Calls Tryz.prog 58 #[.agg #[.slice a n c, .int .i64 T, .int .i64 N], .agg #[.bool ad.s, .int .i64 ad.H.toInt, .int .i64 ad.L.toInt], .int .i64 tk] w fun e w' => ∃ a' c', e = .returned (.tuple #[.agg #[.slice a' n c', .int .i64 T, .int .i64 N], .int .i64 10]) ∧ OwnG KLs 35 w' w.heap.size (.slice a' n c') (ls) ∧ Below w.heap.size w w' := by
  have HOw := hidP (fun W h => l6Copy_any (a) n c T N ls W hn (hB.later h) hc hl)
  have HSp := hidP (fun W h => sBookOk_any (a) n c T N ls W hn (hB.later h) hl hst)
  have HAd := hidP (sAddrOk_any ad.s ad.H.toInt ad.L.toInt)
  have HN := hidP hn
  have HR := hidP (fun W h => hB.later (w' := W) h)
  have hok : ad.ok = okB ad.s ad.H.toInt ad.L.toInt := rfl
  rw [hok] at hr
  clear hB hn hst hok hc
  cases hb : bkB ls T N
  · rw [hb] at HSp
    go_enter Tryz.func58, Tryz.ntmps58
    go_wp2_with fail
    obtain ⟨bk0_W1, bk1_W1, bk2_W1⟩ := box3B w 26 (.slice a n c) (.int .i64 T) (.int .i64 N)
    have bkF_W1 : ∀ o, (w.alloc (.cells #[.slice a n c, .int .i64 T, .int .i64 N] 26)).frozen? ⟨w.heap.size, o, none⟩ = false := fun o => by simp [go_sem]
    have bkL_W1 : w.heap.size < (w.alloc (.cells #[.slice a n c, .int .i64 T, .int .i64 N] 26)).heap.size := by simp
    have ab_W1 := alloc_below w (.cells #[.slice a n c, .int .i64 T, .int .i64 N] 26)
    have as_W1 : Hid ((w.alloc (.cells #[.slice a n c, .int .i64 T, .int .i64 N] 26)).heap.size = w.heap.size + 1) := hidP (by simp)
    generalize w.alloc (.cells #[.slice a n c, .int .i64 T, .int .i64 N] 26) = W1 at *
    have acc_W1 := hidP (ab_W1)
    have sz_W1 : Hid (w.heap.size ≤ W1.heap.size) := hidP ab_W1.size
    clear ab_W1 
    obtain ⟨at0_W2, at1_W2, at2_W2⟩ := box3B W1 28 (.bool ad.s) (.int .i64 ad.H.toInt) (.int .i64 ad.L.toInt)
    have atF_W2 : ∀ o, (W1.alloc (.cells #[.bool ad.s, .int .i64 ad.H.toInt, .int .i64 ad.L.toInt] 28)).frozen? ⟨W1.heap.size, o, none⟩ = false := fun o => by simp [go_sem]
    have atL_W2 : W1.heap.size < (W1.alloc (.cells #[.bool ad.s, .int .i64 ad.H.toInt, .int .i64 ad.L.toInt] 28)).heap.size := by simp
    have ab_W2 := alloc_below W1 (.cells #[.bool ad.s, .int .i64 ad.H.toInt, .int .i64 ad.L.toInt] 28)
    have as_W2 : Hid ((W1.alloc (.cells #[.bool ad.s, .int .i64 ad.H.toInt, .int .i64 ad.L.toInt] 28)).heap.size = W1.heap.size + 1) := hidP (by simp)
    generalize W1.alloc (.cells #[.bool ad.s, .int .i64 ad.H.toInt, .int .i64 ad.L.toInt] 28) = W2 at *
    have bk0_W2 := (ab_W2.cell bkL_W1).trans bk0_W1
    have bk1_W2 := (ab_W2.cell bkL_W1).trans bk1_W1
    have bk2_W2 := (ab_W2.cell bkL_W1).trans bk2_W1
    have bkF_W2 : ∀ o, W2.frozen? ⟨w.heap.size, o, none⟩ = false := fun o => (ab_W2.frozen bkL_W1).trans (bkF_W1 o)
    have bkL_W2 : w.heap.size < W2.heap.size := Nat.lt_of_lt_of_le bkL_W1 ab_W2.size
    have acc_W2 := hidP (acc_W1.out.trans (ab_W2.mono acc_W1.out.size))
    have sz_W2 : Hid (W1.heap.size ≤ W2.heap.size) := hidP ab_W2.size
    clear ab_W2 bk0_W1 bk1_W1 bk2_W1 bkF_W1 bkL_W1 acc_W1
    rw [as_W1.out] at at0_W2 at1_W2 at2_W2 atL_W2
    have atF_W2' : ∀ o, W2.frozen? ⟨w.heap.size + 1, o, none⟩ = false := fun o => by have := atF_W2 o; rw [as_W1.out] at this; exact this
    clear atF_W2
    have atF_W2 := atF_W2'
    clear atF_W2'
    obtain ⟨rs0_W3, rs1_W3, rs2_W3⟩ := box3B W2 26 (.slice none 0 0) (.int .i64 0) (.int .i64 0)
    have rsF_W3 : ∀ o, (W2.alloc (.cells #[.slice none 0 0, .int .i64 0, .int .i64 0] 26)).frozen? ⟨W2.heap.size, o, none⟩ = false := fun o => by simp [go_sem]
    have rsL_W3 : W2.heap.size < (W2.alloc (.cells #[.slice none 0 0, .int .i64 0, .int .i64 0] 26)).heap.size := by simp
    have ab_W3 := alloc_below W2 (.cells #[.slice none 0 0, .int .i64 0, .int .i64 0] 26)
    have as_W3 : Hid ((W2.alloc (.cells #[.slice none 0 0, .int .i64 0, .int .i64 0] 26)).heap.size = W2.heap.size + 1) := hidP (by simp)
    generalize W2.alloc (.cells #[.slice none 0 0, .int .i64 0, .int .i64 0] 26) = W3 at *
    have bk0_W3 := (ab_W3.cell bkL_W2).trans bk0_W2
    have bk1_W3 := (ab_W3.cell bkL_W2).trans bk1_W2
    have bk2_W3 := (ab_W3.cell bkL_W2).trans bk2_W2
    have bkF_W3 : ∀ o, W3.frozen? ⟨w.heap.size, o, none⟩ = false := fun o => (ab_W3.frozen bkL_W2).trans (bkF_W2 o)
    have bkL_W3 : w.heap.size < W3.heap.size := Nat.lt_of_lt_of_le bkL_W2 ab_W3.size
    have at0_W3 := (ab_W3.cell atL_W2).trans at0_W2
    have at1_W3 := (ab_W3.cell atL_W2).trans at1_W2
    have at2_W3 := (ab_W3.cell atL_W2).trans at2_W2
    have atF_W3 : ∀ o, W3.frozen? ⟨w.heap.size + 1, o, none⟩ = false := fun o => (ab_W3.frozen atL_W2).trans (atF_W2 o)
    have atL_W3 : w.heap.size + 1 < W3.heap.size := Nat.lt_of_lt_of_le atL_W2 ab_W3.size
    have acc_W3 := hidP (acc_W2.out.trans (ab_W3.mono acc_W2.out.size))
    have sz_W3 : Hid (W2.heap.size ≤ W3.heap.size) := hidP ab_W3.size
    clear ab_W3 bk0_W2 bk1_W2 bk2_W2 bkF_W2 bkL_W2 at0_W2 at1_W2 at2_W2 atF_W2 atL_W2 acc_W2
    rw [as_W2.out, as_W1.out] at rs0_W3 rs1_W3 rs2_W3 rsL_W3
    have rsF_W3' : ∀ o, W3.frozen? ⟨w.heap.size + 1 + 1, o, none⟩ = false := fun o => by have := rsF_W3 o; rw [as_W2.out, as_W1.out] at this; exact this
    clear rsF_W3
    have rsF_W3 := rsF_W3'
    clear rsF_W3'
    refine (HOw.out _ acc_W3.out).mono ?_
    rintro e w4 ⟨a3, c3, rfl, og3, hb4⟩
    have og3' := hidP og3
    clear og3
    have bk0_w4 := (hb4.cell bkL_W3).trans bk0_W3
    have bk1_w4 := (hb4.cell bkL_W3).trans bk1_W3
    have bk2_w4 := (hb4.cell bkL_W3).trans bk2_W3
    have bkF_w4 : ∀ o, w4.frozen? ⟨w.heap.size, o, none⟩ = false := fun o => (hb4.frozen bkL_W3).trans (bkF_W3 o)
    have bkL_w4 : w.heap.size < w4.heap.size := Nat.lt_of_lt_of_le bkL_W3 hb4.size
    have at0_w4 := (hb4.cell atL_W3).trans at0_W3
    have at1_w4 := (hb4.cell atL_W3).trans at1_W3
    have at2_w4 := (hb4.cell atL_W3).trans at2_W3
    have atF_w4 : ∀ o, w4.frozen? ⟨w.heap.size + 1, o, none⟩ = false := fun o => (hb4.frozen atL_W3).trans (atF_W3 o)
    have atL_w4 : w.heap.size + 1 < w4.heap.size := Nat.lt_of_lt_of_le atL_W3 hb4.size
    have rs0_w4 := (hb4.cell rsL_W3).trans rs0_W3
    have rs1_w4 := (hb4.cell rsL_W3).trans rs1_W3
    have rs2_w4 := (hb4.cell rsL_W3).trans rs2_W3
    have rsF_w4 : ∀ o, w4.frozen? ⟨w.heap.size + 1 + 1, o, none⟩ = false := fun o => (hb4.frozen rsL_W3).trans (rsF_W3 o)
    have rsL_w4 : w.heap.size + 1 + 1 < w4.heap.size := Nat.lt_of_lt_of_le rsL_W3 hb4.size
    have acc_w4 := hidP (acc_W3.out.trans (hb4.mono acc_W3.out.size))
    have sz_w4 : Hid (W3.heap.size ≤ w4.heap.size) := hidP hb4.size
    clear hb4 bk0_W3 bk1_W3 bk2_W3 bkF_W3 bkL_W3 at0_W3 at1_W3 at2_W3 atF_W3 atL_W3 rs0_W3 rs1_W3 rs2_W3 rsF_W3 rsL_W3 acc_W3
    have oL_w4 := hidP (og3'.out)
    have lhL : Hid (∀ k, (Value.slice a3 n c3).ownBlock = some k → W3.heap.size ≤ k ∧ k < w4.heap.size) := hidP (fun k hk => OwnG.lt oL_w4.out k hk)
    clear og3'
    go_wp2_with fail
    obtain ⟨ou0_W5, ou1_W5, ou2_W5⟩ := box3B w4 26 (.slice a3 n c3) (.int .i64 T) (.int .i64 N)
    have ouF_W5 : ∀ o, (w4.alloc (.cells #[.slice a3 n c3, .int .i64 T, .int .i64 N] 26)).frozen? ⟨w4.heap.size, o, none⟩ = false := fun o => by simp [go_sem]
    have ouL_W5 : w4.heap.size < (w4.alloc (.cells #[.slice a3 n c3, .int .i64 T, .int .i64 N] 26)).heap.size := by simp
    have ab_W5 := alloc_below w4 (.cells #[.slice a3 n c3, .int .i64 T, .int .i64 N] 26)
    have as_W5 : Hid ((w4.alloc (.cells #[.slice a3 n c3, .int .i64 T, .int .i64 N] 26)).heap.size = w4.heap.size + 1) := hidP (by simp)
    generalize w4.alloc (.cells #[.slice a3 n c3, .int .i64 T, .int .i64 N] 26) = W5 at *
    have bk0_W5 := (ab_W5.cell bkL_w4).trans bk0_w4
    have bk1_W5 := (ab_W5.cell bkL_w4).trans bk1_w4
    have bk2_W5 := (ab_W5.cell bkL_w4).trans bk2_w4
    have bkF_W5 : ∀ o, W5.frozen? ⟨w.heap.size, o, none⟩ = false := fun o => (ab_W5.frozen bkL_w4).trans (bkF_w4 o)
    have bkL_W5 : w.heap.size < W5.heap.size := Nat.lt_of_lt_of_le bkL_w4 ab_W5.size
    have at0_W5 := (ab_W5.cell atL_w4).trans at0_w4
    have at1_W5 := (ab_W5.cell atL_w4).trans at1_w4
    have at2_W5 := (ab_W5.cell atL_w4).trans at2_w4
    have atF_W5 : ∀ o, W5.frozen? ⟨w.heap.size + 1, o, none⟩ = false := fun o => (ab_W5.frozen atL_w4).trans (atF_w4 o)
    have atL_W5 : w.heap.size + 1 < W5.heap.size := Nat.lt_of_lt_of_le atL_w4 ab_W5.size
    have rs0_W5 := (ab_W5.cell rsL_w4).trans rs0_w4
    have rs1_W5 := (ab_W5.cell rsL_w4).trans rs1_w4
    have rs2_W5 := (ab_W5.cell rsL_w4).trans rs2_w4
    have rsF_W5 : ∀ o, W5.frozen? ⟨w.heap.size + 1 + 1, o, none⟩ = false := fun o => (ab_W5.frozen rsL_w4).trans (rsF_w4 o)
    have rsL_W5 : w.heap.size + 1 + 1 < W5.heap.size := Nat.lt_of_lt_of_le rsL_w4 ab_W5.size
    have oL_W5 := hidP (OwnG.later oL_w4.out ab_W5)
    have acc_W5 := hidP (acc_w4.out.trans (ab_W5.mono acc_w4.out.size))
    have sz_W5 : Hid (w4.heap.size ≤ W5.heap.size) := hidP ab_W5.size
    clear ab_W5 bk0_w4 bk1_w4 bk2_w4 bkF_w4 bkL_w4 at0_w4 at1_w4 at2_w4 atF_w4 atL_w4 rs0_w4 rs1_w4 rs2_w4 rsF_w4 rsL_w4 oL_w4 acc_w4
    refine (HSp.out _ acc_W5.out).mono ?_
    rintro e w6 ⟨rfl, hb6⟩
    have bk0_w6 := (hb6.cell bkL_W5).trans bk0_W5
    have bk1_w6 := (hb6.cell bkL_W5).trans bk1_W5
    have bk2_w6 := (hb6.cell bkL_W5).trans bk2_W5
    have bkF_w6 : ∀ o, w6.frozen? ⟨w.heap.size, o, none⟩ = false := fun o => (hb6.frozen bkL_W5).trans (bkF_W5 o)
    have bkL_w6 : w.heap.size < w6.heap.size := Nat.lt_of_lt_of_le bkL_W5 hb6.size
    have at0_w6 := (hb6.cell atL_W5).trans at0_W5
    have at1_w6 := (hb6.cell atL_W5).trans at1_W5
    have at2_w6 := (hb6.cell atL_W5).trans at2_W5
    have atF_w6 : ∀ o, w6.frozen? ⟨w.heap.size + 1, o, none⟩ = false := fun o => (hb6.frozen atL_W5).trans (atF_W5 o)
    have atL_w6 : w.heap.size + 1 < w6.heap.size := Nat.lt_of_lt_of_le atL_W5 hb6.size
    have rs0_w6 := (hb6.cell rsL_W5).trans rs0_W5
    have rs1_w6 := (hb6.cell rsL_W5).trans rs1_W5
    have rs2_w6 := (hb6.cell rsL_W5).trans rs2_W5
    have rsF_w6 : ∀ o, w6.frozen? ⟨w.heap.size + 1 + 1, o, none⟩ = false := fun o => (hb6.frozen rsL_W5).trans (rsF_W5 o)
    have rsL_w6 : w.heap.size + 1 + 1 < w6.heap.size := Nat.lt_of_lt_of_le rsL_W5 hb6.size
    have ou0_w6 := (hb6.cell ouL_W5).trans ou0_W5
    have ou1_w6 := (hb6.cell ouL_W5).trans ou1_W5
    have ou2_w6 := (hb6.cell ouL_W5).trans ou2_W5
    have ouF_w6 : ∀ o, w6.frozen? ⟨w4.heap.size, o, none⟩ = false := fun o => (hb6.frozen ouL_W5).trans (ouF_W5 o)
    have ouL_w6 : w4.heap.size < w6.heap.size := Nat.lt_of_lt_of_le ouL_W5 hb6.size
    have oL_w6 := hidP (OwnG.later oL_W5.out hb6)
    have acc_w6 := hidP (acc_W5.out.trans (hb6.mono acc_W5.out.size))
    have sz_w6 : Hid (W5.heap.size ≤ w6.heap.size) := hidP hb6.size
    clear hb6 bk0_W5 bk1_W5 bk2_W5 bkF_W5 bkL_W5 at0_W5 at1_W5 at2_W5 atF_W5 atL_W5 rs0_W5 rs1_W5 rs2_W5 rsF_W5 rsL_W5 ou0_W5 ou1_W5 ou2_W5 ouF_W5 ouL_W5 oL_W5 acc_W5
    go_wp2_with fail
    refine bodyPost_ret (v := .tuple #[.agg #[.slice a3 n c3, .int .i64 T, .int .i64 N], .int .i64 10]) (by simp [results, Tryz.results58, go_sem, rs0_w6, rs1_w6, rs2_w6]) rfl ⟨_, _, rfl, ?_, ?_⟩
    · refine OwnG.mono (B := W3.heap.size) ?_ (by have := as_W1.out; have := sz_W1.out; have := as_W2.out; have := sz_W2.out; have := as_W3.out; have := sz_W3.out; have := sz_w4.out; have := as_W5.out; have := sz_W5.out; have := sz_w6.out; omega)
      iterate 3 (with_reducible refine OwnG.grown ?_ (grown_cellG _ _ _ _) ?_; rotate_left; (focus (exact OwnG.ne_of oL_w6.out (by have := as_W1.out; have := sz_W1.out; have := as_W2.out; have := sz_W2.out; have := as_W3.out; have := sz_W3.out; have := sz_w4.out; have := as_W5.out; have := sz_W5.out; have := sz_w6.out; omega))))
      with_reducible exact oL_w6.out
    · repeat (with_reducible refine Below.setCell ?_ ?_ _; rotate_left; (focus (first | (simp; done) | (simp; omega))))
      exact acc_w6.out
  · rw [hb] at HSp hr
    rw [Bool.true_and] at hr
    rw [hr] at HAd
    go_enter Tryz.func58, Tryz.ntmps58
    go_wp2_with fail
    obtain ⟨bk0_W1, bk1_W1, bk2_W1⟩ := box3B w 26 (.slice a n c) (.int .i64 T) (.int .i64 N)
    have bkF_W1 : ∀ o, (w.alloc (.cells #[.slice a n c, .int .i64 T, .int .i64 N] 26)).frozen? ⟨w.heap.size, o, none⟩ = false := fun o => by simp [go_sem]
    have bkL_W1 : w.heap.size < (w.alloc (.cells #[.slice a n c, .int .i64 T, .int .i64 N] 26)).heap.size := by simp
    have ab_W1 := alloc_below w (.cells #[.slice a n c, .int .i64 T, .int .i64 N] 26)
    have as_W1 : Hid ((w.alloc (.cells #[.slice a n c, .int .i64 T, .int .i64 N] 26)).heap.size = w.heap.size + 1) := hidP (by simp)
    generalize w.alloc (.cells #[.slice a n c, .int .i64 T, .int .i64 N] 26) = W1 at *
    have acc_W1 := hidP (ab_W1)
    have sz_W1 : Hid (w.heap.size ≤ W1.heap.size) := hidP ab_W1.size
    clear ab_W1 
    obtain ⟨at0_W2, at1_W2, at2_W2⟩ := box3B W1 28 (.bool ad.s) (.int .i64 ad.H.toInt) (.int .i64 ad.L.toInt)
    have atF_W2 : ∀ o, (W1.alloc (.cells #[.bool ad.s, .int .i64 ad.H.toInt, .int .i64 ad.L.toInt] 28)).frozen? ⟨W1.heap.size, o, none⟩ = false := fun o => by simp [go_sem]
    have atL_W2 : W1.heap.size < (W1.alloc (.cells #[.bool ad.s, .int .i64 ad.H.toInt, .int .i64 ad.L.toInt] 28)).heap.size := by simp
    have ab_W2 := alloc_below W1 (.cells #[.bool ad.s, .int .i64 ad.H.toInt, .int .i64 ad.L.toInt] 28)
    have as_W2 : Hid ((W1.alloc (.cells #[.bool ad.s, .int .i64 ad.H.toInt, .int .i64 ad.L.toInt] 28)).heap.size = W1.heap.size + 1) := hidP (by simp)
    generalize W1.alloc (.cells #[.bool ad.s, .int .i64 ad.H.toInt, .int .i64 ad.L.toInt] 28) = W2 at *
    have bk0_W2 := (ab_W2.cell bkL_W1).trans bk0_W1
    have bk1_W2 := (ab_W2.cell bkL_W1).trans bk1_W1
    have bk2_W2 := (ab_W2.cell bkL_W1).trans bk2_W1
    have bkF_W2 : ∀ o, W2.frozen? ⟨w.heap.size, o, none⟩ = false := fun o => (ab_W2.frozen bkL_W1).trans (bkF_W1 o)
    have bkL_W2 : w.heap.size < W2.heap.size := Nat.lt_of_lt_of_le bkL_W1 ab_W2.size
    have acc_W2 := hidP (acc_W1.out.trans (ab_W2.mono acc_W1.out.size))
    have sz_W2 : Hid (W1.heap.size ≤ W2.heap.size) := hidP ab_W2.size
    clear ab_W2 bk0_W1 bk1_W1 bk2_W1 bkF_W1 bkL_W1 acc_W1
    rw [as_W1.out] at at0_W2 at1_W2 at2_W2 atL_W2
    have atF_W2' : ∀ o, W2.frozen? ⟨w.heap.size + 1, o, none⟩ = false := fun o => by have := atF_W2 o; rw [as_W1.out] at this; exact this
    clear atF_W2
    have atF_W2 := atF_W2'
    clear atF_W2'
    obtain ⟨rs0_W3, rs1_W3, rs2_W3⟩ := box3B W2 26 (.slice none 0 0) (.int .i64 0) (.int .i64 0)
    have rsF_W3 : ∀ o, (W2.alloc (.cells #[.slice none 0 0, .int .i64 0, .int .i64 0] 26)).frozen? ⟨W2.heap.size, o, none⟩ = false := fun o => by simp [go_sem]
    have rsL_W3 : W2.heap.size < (W2.alloc (.cells #[.slice none 0 0, .int .i64 0, .int .i64 0] 26)).heap.size := by simp
    have ab_W3 := alloc_below W2 (.cells #[.slice none 0 0, .int .i64 0, .int .i64 0] 26)
    have as_W3 : Hid ((W2.alloc (.cells #[.slice none 0 0, .int .i64 0, .int .i64 0] 26)).heap.size = W2.heap.size + 1) := hidP (by simp)
    generalize W2.alloc (.cells #[.slice none 0 0, .int .i64 0, .int .i64 0] 26) = W3 at *
    have bk0_W3 := (ab_W3.cell bkL_W2).trans bk0_W2
    have bk1_W3 := (ab_W3.cell bkL_W2).trans bk1_W2
    have bk2_W3 := (ab_W3.cell bkL_W2).trans bk2_W2
    have bkF_W3 : ∀ o, W3.frozen? ⟨w.heap.size, o, none⟩ = false := fun o => (ab_W3.frozen bkL_W2).trans (bkF_W2 o)
    have bkL_W3 : w.heap.size < W3.heap.size := Nat.lt_of_lt_of_le bkL_W2 ab_W3.size
    have at0_W3 := (ab_W3.cell atL_W2).trans at0_W2
    have at1_W3 := (ab_W3.cell atL_W2).trans at1_W2
    have at2_W3 := (ab_W3.cell atL_W2).trans at2_W2
    have atF_W3 : ∀ o, W3.frozen? ⟨w.heap.size + 1, o, none⟩ = false := fun o => (ab_W3.frozen atL_W2).trans (atF_W2 o)
    have atL_W3 : w.heap.size + 1 < W3.heap.size := Nat.lt_of_lt_of_le atL_W2 ab_W3.size
    have acc_W3 := hidP (acc_W2.out.trans (ab_W3.mono acc_W2.out.size))
    have sz_W3 : Hid (W2.heap.size ≤ W3.heap.size) := hidP ab_W3.size
    clear ab_W3 bk0_W2 bk1_W2 bk2_W2 bkF_W2 bkL_W2 at0_W2 at1_W2 at2_W2 atF_W2 atL_W2 acc_W2
    rw [as_W2.out, as_W1.out] at rs0_W3 rs1_W3 rs2_W3 rsL_W3
    have rsF_W3' : ∀ o, W3.frozen? ⟨w.heap.size + 1 + 1, o, none⟩ = false := fun o => by have := rsF_W3 o; rw [as_W2.out, as_W1.out] at this; exact this
    clear rsF_W3
    have rsF_W3 := rsF_W3'
    clear rsF_W3'
    refine (HOw.out _ acc_W3.out).mono ?_
    rintro e w4 ⟨a3, c3, rfl, og3, hb4⟩
    have og3' := hidP og3
    clear og3
    have bk0_w4 := (hb4.cell bkL_W3).trans bk0_W3
    have bk1_w4 := (hb4.cell bkL_W3).trans bk1_W3
    have bk2_w4 := (hb4.cell bkL_W3).trans bk2_W3
    have bkF_w4 : ∀ o, w4.frozen? ⟨w.heap.size, o, none⟩ = false := fun o => (hb4.frozen bkL_W3).trans (bkF_W3 o)
    have bkL_w4 : w.heap.size < w4.heap.size := Nat.lt_of_lt_of_le bkL_W3 hb4.size
    have at0_w4 := (hb4.cell atL_W3).trans at0_W3
    have at1_w4 := (hb4.cell atL_W3).trans at1_W3
    have at2_w4 := (hb4.cell atL_W3).trans at2_W3
    have atF_w4 : ∀ o, w4.frozen? ⟨w.heap.size + 1, o, none⟩ = false := fun o => (hb4.frozen atL_W3).trans (atF_W3 o)
    have atL_w4 : w.heap.size + 1 < w4.heap.size := Nat.lt_of_lt_of_le atL_W3 hb4.size
    have rs0_w4 := (hb4.cell rsL_W3).trans rs0_W3
    have rs1_w4 := (hb4.cell rsL_W3).trans rs1_W3
    have rs2_w4 := (hb4.cell rsL_W3).trans rs2_W3
    have rsF_w4 : ∀ o, w4.frozen? ⟨w.heap.size + 1 + 1, o, none⟩ = false := fun o => (hb4.frozen rsL_W3).trans (rsF_W3 o)
    have rsL_w4 : w.heap.size + 1 + 1 < w4.heap.size := Nat.lt_of_lt_of_le rsL_W3 hb4.size
    have acc_w4 := hidP (acc_W3.out.trans (hb4.mono acc_W3.out.size))
    have sz_w4 : Hid (W3.heap.size ≤ w4.heap.size) := hidP hb4.size
    clear hb4 bk0_W3 bk1_W3 bk2_W3 bkF_W3 bkL_W3 at0_W3 at1_W3 at2_W3 atF_W3 atL_W3 rs0_W3 rs1_W3 rs2_W3 rsF_W3 rsL_W3 acc_W3
    have oL_w4 := hidP (og3'.out)
    have lhL : Hid (∀ k, (Value.slice a3 n c3).ownBlock = some k → W3.heap.size ≤ k ∧ k < w4.heap.size) := hidP (fun k hk => OwnG.lt oL_w4.out k hk)
    clear og3'
    go_wp2_with fail
    obtain ⟨ou0_W5, ou1_W5, ou2_W5⟩ := box3B w4 26 (.slice a3 n c3) (.int .i64 T) (.int .i64 N)
    have ouF_W5 : ∀ o, (w4.alloc (.cells #[.slice a3 n c3, .int .i64 T, .int .i64 N] 26)).frozen? ⟨w4.heap.size, o, none⟩ = false := fun o => by simp [go_sem]
    have ouL_W5 : w4.heap.size < (w4.alloc (.cells #[.slice a3 n c3, .int .i64 T, .int .i64 N] 26)).heap.size := by simp
    have ab_W5 := alloc_below w4 (.cells #[.slice a3 n c3, .int .i64 T, .int .i64 N] 26)
    have as_W5 : Hid ((w4.alloc (.cells #[.slice a3 n c3, .int .i64 T, .int .i64 N] 26)).heap.size = w4.heap.size + 1) := hidP (by simp)
    generalize w4.alloc (.cells #[.slice a3 n c3, .int .i64 T, .int .i64 N] 26) = W5 at *
    have bk0_W5 := (ab_W5.cell bkL_w4).trans bk0_w4
    have bk1_W5 := (ab_W5.cell bkL_w4).trans bk1_w4
    have bk2_W5 := (ab_W5.cell bkL_w4).trans bk2_w4
    have bkF_W5 : ∀ o, W5.frozen? ⟨w.heap.size, o, none⟩ = false := fun o => (ab_W5.frozen bkL_w4).trans (bkF_w4 o)
    have bkL_W5 : w.heap.size < W5.heap.size := Nat.lt_of_lt_of_le bkL_w4 ab_W5.size
    have at0_W5 := (ab_W5.cell atL_w4).trans at0_w4
    have at1_W5 := (ab_W5.cell atL_w4).trans at1_w4
    have at2_W5 := (ab_W5.cell atL_w4).trans at2_w4
    have atF_W5 : ∀ o, W5.frozen? ⟨w.heap.size + 1, o, none⟩ = false := fun o => (ab_W5.frozen atL_w4).trans (atF_w4 o)
    have atL_W5 : w.heap.size + 1 < W5.heap.size := Nat.lt_of_lt_of_le atL_w4 ab_W5.size
    have rs0_W5 := (ab_W5.cell rsL_w4).trans rs0_w4
    have rs1_W5 := (ab_W5.cell rsL_w4).trans rs1_w4
    have rs2_W5 := (ab_W5.cell rsL_w4).trans rs2_w4
    have rsF_W5 : ∀ o, W5.frozen? ⟨w.heap.size + 1 + 1, o, none⟩ = false := fun o => (ab_W5.frozen rsL_w4).trans (rsF_w4 o)
    have rsL_W5 : w.heap.size + 1 + 1 < W5.heap.size := Nat.lt_of_lt_of_le rsL_w4 ab_W5.size
    have oL_W5 := hidP (OwnG.later oL_w4.out ab_W5)
    have acc_W5 := hidP (acc_w4.out.trans (ab_W5.mono acc_w4.out.size))
    have sz_W5 : Hid (w4.heap.size ≤ W5.heap.size) := hidP ab_W5.size
    clear ab_W5 bk0_w4 bk1_w4 bk2_w4 bkF_w4 bkL_w4 at0_w4 at1_w4 at2_w4 atF_w4 atL_w4 rs0_w4 rs1_w4 rs2_w4 rsF_w4 rsL_w4 oL_w4 acc_w4
    refine (HSp.out _ acc_W5.out).mono ?_
    rintro e w6 ⟨rfl, hb6⟩
    have bk0_w6 := (hb6.cell bkL_W5).trans bk0_W5
    have bk1_w6 := (hb6.cell bkL_W5).trans bk1_W5
    have bk2_w6 := (hb6.cell bkL_W5).trans bk2_W5
    have bkF_w6 : ∀ o, w6.frozen? ⟨w.heap.size, o, none⟩ = false := fun o => (hb6.frozen bkL_W5).trans (bkF_W5 o)
    have bkL_w6 : w.heap.size < w6.heap.size := Nat.lt_of_lt_of_le bkL_W5 hb6.size
    have at0_w6 := (hb6.cell atL_W5).trans at0_W5
    have at1_w6 := (hb6.cell atL_W5).trans at1_W5
    have at2_w6 := (hb6.cell atL_W5).trans at2_W5
    have atF_w6 : ∀ o, w6.frozen? ⟨w.heap.size + 1, o, none⟩ = false := fun o => (hb6.frozen atL_W5).trans (atF_W5 o)
    have atL_w6 : w.heap.size + 1 < w6.heap.size := Nat.lt_of_lt_of_le atL_W5 hb6.size
    have rs0_w6 := (hb6.cell rsL_W5).trans rs0_W5
    have rs1_w6 := (hb6.cell rsL_W5).trans rs1_W5
    have rs2_w6 := (hb6.cell rsL_W5).trans rs2_W5
    have rsF_w6 : ∀ o, w6.frozen? ⟨w.heap.size + 1 + 1, o, none⟩ = false := fun o => (hb6.frozen rsL_W5).trans (rsF_W5 o)
    have rsL_w6 : w.heap.size + 1 + 1 < w6.heap.size := Nat.lt_of_lt_of_le rsL_W5 hb6.size
    have ou0_w6 := (hb6.cell ouL_W5).trans ou0_W5
    have ou1_w6 := (hb6.cell ouL_W5).trans ou1_W5
    have ou2_w6 := (hb6.cell ouL_W5).trans ou2_W5
    have ouF_w6 : ∀ o, w6.frozen? ⟨w4.heap.size, o, none⟩ = false := fun o => (hb6.frozen ouL_W5).trans (ouF_W5 o)
    have ouL_w6 : w4.heap.size < w6.heap.size := Nat.lt_of_lt_of_le ouL_W5 hb6.size
    have oL_w6 := hidP (OwnG.later oL_W5.out hb6)
    have acc_w6 := hidP (acc_W5.out.trans (hb6.mono acc_W5.out.size))
    have sz_w6 : Hid (W5.heap.size ≤ w6.heap.size) := hidP hb6.size
    clear hb6 bk0_W5 bk1_W5 bk2_W5 bkF_W5 bkL_W5 at0_W5 at1_W5 at2_W5 atF_W5 atL_W5 rs0_W5 rs1_W5 rs2_W5 rsF_W5 rsL_W5 ou0_W5 ou1_W5 ou2_W5 ouF_W5 ouL_W5 oL_W5 acc_W5
    go_wp2_with fail
    refine (HAd.out _).mono ?_
    rintro e w7 ⟨rfl, hb7⟩
    have bk0_w7 := (hb7.cell bkL_w6).trans bk0_w6
    have bk1_w7 := (hb7.cell bkL_w6).trans bk1_w6
    have bk2_w7 := (hb7.cell bkL_w6).trans bk2_w6
    have bkF_w7 : ∀ o, w7.frozen? ⟨w.heap.size, o, none⟩ = false := fun o => (hb7.frozen bkL_w6).trans (bkF_w6 o)
    have bkL_w7 : w.heap.size < w7.heap.size := Nat.lt_of_lt_of_le bkL_w6 hb7.size
    have at0_w7 := (hb7.cell atL_w6).trans at0_w6
    have at1_w7 := (hb7.cell atL_w6).trans at1_w6
    have at2_w7 := (hb7.cell atL_w6).trans at2_w6
    have atF_w7 : ∀ o, w7.frozen? ⟨w.heap.size + 1, o, none⟩ = false := fun o => (hb7.frozen atL_w6).trans (atF_w6 o)
    have atL_w7 : w.heap.size + 1 < w7.heap.size := Nat.lt_of_lt_of_le atL_w6 hb7.size
    have rs0_w7 := (hb7.cell rsL_w6).trans rs0_w6
    have rs1_w7 := (hb7.cell rsL_w6).trans rs1_w6
    have rs2_w7 := (hb7.cell rsL_w6).trans rs2_w6
    have rsF_w7 : ∀ o, w7.frozen? ⟨w.heap.size + 1 + 1, o, none⟩ = false := fun o => (hb7.frozen rsL_w6).trans (rsF_w6 o)
    have rsL_w7 : w.heap.size + 1 + 1 < w7.heap.size := Nat.lt_of_lt_of_le rsL_w6 hb7.size
    have ou0_w7 := (hb7.cell ouL_w6).trans ou0_w6
    have ou1_w7 := (hb7.cell ouL_w6).trans ou1_w6
    have ou2_w7 := (hb7.cell ouL_w6).trans ou2_w6
    have ouF_w7 : ∀ o, w7.frozen? ⟨w4.heap.size, o, none⟩ = false := fun o => (hb7.frozen ouL_w6).trans (ouF_w6 o)
    have ouL_w7 : w4.heap.size < w7.heap.size := Nat.lt_of_lt_of_le ouL_w6 hb7.size
    have oL_w7 := hidP (OwnG.later oL_w6.out hb7)
    have acc_w7 := hidP (acc_w6.out.trans (hb7.mono acc_w6.out.size))
    have sz_w7 : Hid (w6.heap.size ≤ w7.heap.size) := hidP hb7.size
    clear hb7 bk0_w6 bk1_w6 bk2_w6 bkF_w6 bkL_w6 at0_w6 at1_w6 at2_w6 atF_w6 atL_w6 rs0_w6 rs1_w6 rs2_w6 rsF_w6 rsL_w6 ou0_w6 ou1_w6 ou2_w6 ouF_w6 ouL_w6 oL_w6 acc_w6
    go_wp2_with fail
    refine bodyPost_ret (v := .tuple #[.agg #[.slice a3 n c3, .int .i64 T, .int .i64 N], .int .i64 10]) (by simp [results, Tryz.results58, go_sem, rs0_w7, rs1_w7, rs2_w7]) rfl ⟨_, _, rfl, ?_, ?_⟩
    · refine OwnG.mono (B := W3.heap.size) ?_ (by have := as_W1.out; have := sz_W1.out; have := as_W2.out; have := sz_W2.out; have := as_W3.out; have := sz_W3.out; have := sz_w4.out; have := as_W5.out; have := sz_W5.out; have := sz_w6.out; have := sz_w7.out; omega)
      iterate 3 (with_reducible refine OwnG.grown ?_ (grown_cellG _ _ _ _) ?_; rotate_left; (focus (exact OwnG.ne_of oL_w7.out (by have := as_W1.out; have := sz_W1.out; have := as_W2.out; have := sz_W2.out; have := as_W3.out; have := sz_W3.out; have := sz_w4.out; have := as_W5.out; have := sz_W5.out; have := sz_w6.out; have := sz_w7.out; omega))))
      with_reducible exact oL_w7.out
    · repeat (with_reducible refine Below.setCell ?_ ?_ _; rotate_left; (focus (first | (simp; done) | (simp; omega))))
      exact acc_w7.out

set_option maxRecDepth 10000 in
set_option maxHeartbeats 4000000 in
theorem sRel_code (a : Option Addr) (n c : Nat) (T N : Int) (ls : List Ls) (ad : Ad) (tk : Int) (w : World) (hn : n = ls.length) (hB : RowG KLs w a ls) (hl : n ≤ 1048576) (hc : a = none → c = 0) (hst : ∀ q ∈ ls, q.t.size ≤ 9223372036854775807) (hr : (bkB ls T N && ad.ok) = true) (x : Int) (hx0 : ¬ x = 0) (HL : ∀ W, Below w.heap.size w W → Calls Tryz.prog 73 #[.agg #[.slice a n c, .int .i64 T, .int .i64 N], .agg #[.bool ad.s, .int .i64 ad.H.toInt, .int .i64 ad.L.toInt], .int .i64 tk] W fun e w' => e = .returned (.tuple #[.int .i64 0, .int .i64 x]) ∧ Below W.heap.size W w') :
    Calls Tryz.prog 58 #[.agg #[.slice a n c, .int .i64 T, .int .i64 N], .agg #[.bool ad.s, .int .i64 ad.H.toInt, .int .i64 ad.L.toInt], .int .i64 tk] w fun e w' => ∃ a' c', e = .returned (.tuple #[.agg #[.slice a' n c', .int .i64 T, .int .i64 N], .int .i64 x]) ∧ OwnG KLs 35 w' w.heap.size (.slice a' n c') (ls) ∧ Below w.heap.size w w' := by
  have HOw := hidP (fun W h => l6Copy_any (a) n c T N ls W hn (hB.later h) hc hl)
  have HSp := hidP (fun W h => sBookOk_any (a) n c T N ls W hn (hB.later h) hl hst)
  have HAd := hidP (sAddrOk_any ad.s ad.H.toInt ad.L.toInt)
  have HN := hidP hn
  have HR := hidP (fun W h => hB.later (w' := W) h)
  rw [Bool.and_eq_true] at hr
  have hok' : okB ad.s ad.H.toInt ad.L.toInt = true := hr.2
  rw [hr.1] at HSp
  rw [hok'] at HAd
  clear hB hn hst hr hok'
  have HLd := hidP HL
  have hx1 : (x == 0) = false := beq_eq_false_iff_ne.2 hx0
  clear HL hc
  go_enter Tryz.func58, Tryz.ntmps58
  go_wp2_with fail
  obtain ⟨bk0_W1, bk1_W1, bk2_W1⟩ := box3B w 26 (.slice a n c) (.int .i64 T) (.int .i64 N)
  have bkF_W1 : ∀ o, (w.alloc (.cells #[.slice a n c, .int .i64 T, .int .i64 N] 26)).frozen? ⟨w.heap.size, o, none⟩ = false := fun o => by simp [go_sem]
  have bkL_W1 : w.heap.size < (w.alloc (.cells #[.slice a n c, .int .i64 T, .int .i64 N] 26)).heap.size := by simp
  have ab_W1 := alloc_below w (.cells #[.slice a n c, .int .i64 T, .int .i64 N] 26)
  have as_W1 : Hid ((w.alloc (.cells #[.slice a n c, .int .i64 T, .int .i64 N] 26)).heap.size = w.heap.size + 1) := hidP (by simp)
  generalize w.alloc (.cells #[.slice a n c, .int .i64 T, .int .i64 N] 26) = W1 at *
  have acc_W1 := hidP (ab_W1)
  have sz_W1 : Hid (w.heap.size ≤ W1.heap.size) := hidP ab_W1.size
  clear ab_W1 
  obtain ⟨at0_W2, at1_W2, at2_W2⟩ := box3B W1 28 (.bool ad.s) (.int .i64 ad.H.toInt) (.int .i64 ad.L.toInt)
  have atF_W2 : ∀ o, (W1.alloc (.cells #[.bool ad.s, .int .i64 ad.H.toInt, .int .i64 ad.L.toInt] 28)).frozen? ⟨W1.heap.size, o, none⟩ = false := fun o => by simp [go_sem]
  have atL_W2 : W1.heap.size < (W1.alloc (.cells #[.bool ad.s, .int .i64 ad.H.toInt, .int .i64 ad.L.toInt] 28)).heap.size := by simp
  have ab_W2 := alloc_below W1 (.cells #[.bool ad.s, .int .i64 ad.H.toInt, .int .i64 ad.L.toInt] 28)
  have as_W2 : Hid ((W1.alloc (.cells #[.bool ad.s, .int .i64 ad.H.toInt, .int .i64 ad.L.toInt] 28)).heap.size = W1.heap.size + 1) := hidP (by simp)
  generalize W1.alloc (.cells #[.bool ad.s, .int .i64 ad.H.toInt, .int .i64 ad.L.toInt] 28) = W2 at *
  have bk0_W2 := (ab_W2.cell bkL_W1).trans bk0_W1
  have bk1_W2 := (ab_W2.cell bkL_W1).trans bk1_W1
  have bk2_W2 := (ab_W2.cell bkL_W1).trans bk2_W1
  have bkF_W2 : ∀ o, W2.frozen? ⟨w.heap.size, o, none⟩ = false := fun o => (ab_W2.frozen bkL_W1).trans (bkF_W1 o)
  have bkL_W2 : w.heap.size < W2.heap.size := Nat.lt_of_lt_of_le bkL_W1 ab_W2.size
  have acc_W2 := hidP (acc_W1.out.trans (ab_W2.mono acc_W1.out.size))
  have sz_W2 : Hid (W1.heap.size ≤ W2.heap.size) := hidP ab_W2.size
  clear ab_W2 bk0_W1 bk1_W1 bk2_W1 bkF_W1 bkL_W1 acc_W1
  rw [as_W1.out] at at0_W2 at1_W2 at2_W2 atL_W2
  have atF_W2' : ∀ o, W2.frozen? ⟨w.heap.size + 1, o, none⟩ = false := fun o => by have := atF_W2 o; rw [as_W1.out] at this; exact this
  clear atF_W2
  have atF_W2 := atF_W2'
  clear atF_W2'
  obtain ⟨rs0_W3, rs1_W3, rs2_W3⟩ := box3B W2 26 (.slice none 0 0) (.int .i64 0) (.int .i64 0)
  have rsF_W3 : ∀ o, (W2.alloc (.cells #[.slice none 0 0, .int .i64 0, .int .i64 0] 26)).frozen? ⟨W2.heap.size, o, none⟩ = false := fun o => by simp [go_sem]
  have rsL_W3 : W2.heap.size < (W2.alloc (.cells #[.slice none 0 0, .int .i64 0, .int .i64 0] 26)).heap.size := by simp
  have ab_W3 := alloc_below W2 (.cells #[.slice none 0 0, .int .i64 0, .int .i64 0] 26)
  have as_W3 : Hid ((W2.alloc (.cells #[.slice none 0 0, .int .i64 0, .int .i64 0] 26)).heap.size = W2.heap.size + 1) := hidP (by simp)
  generalize W2.alloc (.cells #[.slice none 0 0, .int .i64 0, .int .i64 0] 26) = W3 at *
  have bk0_W3 := (ab_W3.cell bkL_W2).trans bk0_W2
  have bk1_W3 := (ab_W3.cell bkL_W2).trans bk1_W2
  have bk2_W3 := (ab_W3.cell bkL_W2).trans bk2_W2
  have bkF_W3 : ∀ o, W3.frozen? ⟨w.heap.size, o, none⟩ = false := fun o => (ab_W3.frozen bkL_W2).trans (bkF_W2 o)
  have bkL_W3 : w.heap.size < W3.heap.size := Nat.lt_of_lt_of_le bkL_W2 ab_W3.size
  have at0_W3 := (ab_W3.cell atL_W2).trans at0_W2
  have at1_W3 := (ab_W3.cell atL_W2).trans at1_W2
  have at2_W3 := (ab_W3.cell atL_W2).trans at2_W2
  have atF_W3 : ∀ o, W3.frozen? ⟨w.heap.size + 1, o, none⟩ = false := fun o => (ab_W3.frozen atL_W2).trans (atF_W2 o)
  have atL_W3 : w.heap.size + 1 < W3.heap.size := Nat.lt_of_lt_of_le atL_W2 ab_W3.size
  have acc_W3 := hidP (acc_W2.out.trans (ab_W3.mono acc_W2.out.size))
  have sz_W3 : Hid (W2.heap.size ≤ W3.heap.size) := hidP ab_W3.size
  clear ab_W3 bk0_W2 bk1_W2 bk2_W2 bkF_W2 bkL_W2 at0_W2 at1_W2 at2_W2 atF_W2 atL_W2 acc_W2
  rw [as_W2.out, as_W1.out] at rs0_W3 rs1_W3 rs2_W3 rsL_W3
  have rsF_W3' : ∀ o, W3.frozen? ⟨w.heap.size + 1 + 1, o, none⟩ = false := fun o => by have := rsF_W3 o; rw [as_W2.out, as_W1.out] at this; exact this
  clear rsF_W3
  have rsF_W3 := rsF_W3'
  clear rsF_W3'
  refine (HOw.out _ acc_W3.out).mono ?_
  rintro e w4 ⟨a3, c3, rfl, og3, hb4⟩
  have og3' := hidP og3
  clear og3
  have bk0_w4 := (hb4.cell bkL_W3).trans bk0_W3
  have bk1_w4 := (hb4.cell bkL_W3).trans bk1_W3
  have bk2_w4 := (hb4.cell bkL_W3).trans bk2_W3
  have bkF_w4 : ∀ o, w4.frozen? ⟨w.heap.size, o, none⟩ = false := fun o => (hb4.frozen bkL_W3).trans (bkF_W3 o)
  have bkL_w4 : w.heap.size < w4.heap.size := Nat.lt_of_lt_of_le bkL_W3 hb4.size
  have at0_w4 := (hb4.cell atL_W3).trans at0_W3
  have at1_w4 := (hb4.cell atL_W3).trans at1_W3
  have at2_w4 := (hb4.cell atL_W3).trans at2_W3
  have atF_w4 : ∀ o, w4.frozen? ⟨w.heap.size + 1, o, none⟩ = false := fun o => (hb4.frozen atL_W3).trans (atF_W3 o)
  have atL_w4 : w.heap.size + 1 < w4.heap.size := Nat.lt_of_lt_of_le atL_W3 hb4.size
  have rs0_w4 := (hb4.cell rsL_W3).trans rs0_W3
  have rs1_w4 := (hb4.cell rsL_W3).trans rs1_W3
  have rs2_w4 := (hb4.cell rsL_W3).trans rs2_W3
  have rsF_w4 : ∀ o, w4.frozen? ⟨w.heap.size + 1 + 1, o, none⟩ = false := fun o => (hb4.frozen rsL_W3).trans (rsF_W3 o)
  have rsL_w4 : w.heap.size + 1 + 1 < w4.heap.size := Nat.lt_of_lt_of_le rsL_W3 hb4.size
  have acc_w4 := hidP (acc_W3.out.trans (hb4.mono acc_W3.out.size))
  have sz_w4 : Hid (W3.heap.size ≤ w4.heap.size) := hidP hb4.size
  clear hb4 bk0_W3 bk1_W3 bk2_W3 bkF_W3 bkL_W3 at0_W3 at1_W3 at2_W3 atF_W3 atL_W3 rs0_W3 rs1_W3 rs2_W3 rsF_W3 rsL_W3 acc_W3
  have oL_w4 := hidP (og3'.out)
  have lhL : Hid (∀ k, (Value.slice a3 n c3).ownBlock = some k → W3.heap.size ≤ k ∧ k < w4.heap.size) := hidP (fun k hk => OwnG.lt oL_w4.out k hk)
  clear og3'
  go_wp2_with fail
  obtain ⟨ou0_W5, ou1_W5, ou2_W5⟩ := box3B w4 26 (.slice a3 n c3) (.int .i64 T) (.int .i64 N)
  have ouF_W5 : ∀ o, (w4.alloc (.cells #[.slice a3 n c3, .int .i64 T, .int .i64 N] 26)).frozen? ⟨w4.heap.size, o, none⟩ = false := fun o => by simp [go_sem]
  have ouL_W5 : w4.heap.size < (w4.alloc (.cells #[.slice a3 n c3, .int .i64 T, .int .i64 N] 26)).heap.size := by simp
  have ab_W5 := alloc_below w4 (.cells #[.slice a3 n c3, .int .i64 T, .int .i64 N] 26)
  have as_W5 : Hid ((w4.alloc (.cells #[.slice a3 n c3, .int .i64 T, .int .i64 N] 26)).heap.size = w4.heap.size + 1) := hidP (by simp)
  generalize w4.alloc (.cells #[.slice a3 n c3, .int .i64 T, .int .i64 N] 26) = W5 at *
  have bk0_W5 := (ab_W5.cell bkL_w4).trans bk0_w4
  have bk1_W5 := (ab_W5.cell bkL_w4).trans bk1_w4
  have bk2_W5 := (ab_W5.cell bkL_w4).trans bk2_w4
  have bkF_W5 : ∀ o, W5.frozen? ⟨w.heap.size, o, none⟩ = false := fun o => (ab_W5.frozen bkL_w4).trans (bkF_w4 o)
  have bkL_W5 : w.heap.size < W5.heap.size := Nat.lt_of_lt_of_le bkL_w4 ab_W5.size
  have at0_W5 := (ab_W5.cell atL_w4).trans at0_w4
  have at1_W5 := (ab_W5.cell atL_w4).trans at1_w4
  have at2_W5 := (ab_W5.cell atL_w4).trans at2_w4
  have atF_W5 : ∀ o, W5.frozen? ⟨w.heap.size + 1, o, none⟩ = false := fun o => (ab_W5.frozen atL_w4).trans (atF_w4 o)
  have atL_W5 : w.heap.size + 1 < W5.heap.size := Nat.lt_of_lt_of_le atL_w4 ab_W5.size
  have rs0_W5 := (ab_W5.cell rsL_w4).trans rs0_w4
  have rs1_W5 := (ab_W5.cell rsL_w4).trans rs1_w4
  have rs2_W5 := (ab_W5.cell rsL_w4).trans rs2_w4
  have rsF_W5 : ∀ o, W5.frozen? ⟨w.heap.size + 1 + 1, o, none⟩ = false := fun o => (ab_W5.frozen rsL_w4).trans (rsF_w4 o)
  have rsL_W5 : w.heap.size + 1 + 1 < W5.heap.size := Nat.lt_of_lt_of_le rsL_w4 ab_W5.size
  have oL_W5 := hidP (OwnG.later oL_w4.out ab_W5)
  have acc_W5 := hidP (acc_w4.out.trans (ab_W5.mono acc_w4.out.size))
  have sz_W5 : Hid (w4.heap.size ≤ W5.heap.size) := hidP ab_W5.size
  clear ab_W5 bk0_w4 bk1_w4 bk2_w4 bkF_w4 bkL_w4 at0_w4 at1_w4 at2_w4 atF_w4 atL_w4 rs0_w4 rs1_w4 rs2_w4 rsF_w4 rsL_w4 oL_w4 acc_w4
  refine (HSp.out _ acc_W5.out).mono ?_
  rintro e w6 ⟨rfl, hb6⟩
  have bk0_w6 := (hb6.cell bkL_W5).trans bk0_W5
  have bk1_w6 := (hb6.cell bkL_W5).trans bk1_W5
  have bk2_w6 := (hb6.cell bkL_W5).trans bk2_W5
  have bkF_w6 : ∀ o, w6.frozen? ⟨w.heap.size, o, none⟩ = false := fun o => (hb6.frozen bkL_W5).trans (bkF_W5 o)
  have bkL_w6 : w.heap.size < w6.heap.size := Nat.lt_of_lt_of_le bkL_W5 hb6.size
  have at0_w6 := (hb6.cell atL_W5).trans at0_W5
  have at1_w6 := (hb6.cell atL_W5).trans at1_W5
  have at2_w6 := (hb6.cell atL_W5).trans at2_W5
  have atF_w6 : ∀ o, w6.frozen? ⟨w.heap.size + 1, o, none⟩ = false := fun o => (hb6.frozen atL_W5).trans (atF_W5 o)
  have atL_w6 : w.heap.size + 1 < w6.heap.size := Nat.lt_of_lt_of_le atL_W5 hb6.size
  have rs0_w6 := (hb6.cell rsL_W5).trans rs0_W5
  have rs1_w6 := (hb6.cell rsL_W5).trans rs1_W5
  have rs2_w6 := (hb6.cell rsL_W5).trans rs2_W5
  have rsF_w6 : ∀ o, w6.frozen? ⟨w.heap.size + 1 + 1, o, none⟩ = false := fun o => (hb6.frozen rsL_W5).trans (rsF_W5 o)
  have rsL_w6 : w.heap.size + 1 + 1 < w6.heap.size := Nat.lt_of_lt_of_le rsL_W5 hb6.size
  have ou0_w6 := (hb6.cell ouL_W5).trans ou0_W5
  have ou1_w6 := (hb6.cell ouL_W5).trans ou1_W5
  have ou2_w6 := (hb6.cell ouL_W5).trans ou2_W5
  have ouF_w6 : ∀ o, w6.frozen? ⟨w4.heap.size, o, none⟩ = false := fun o => (hb6.frozen ouL_W5).trans (ouF_W5 o)
  have ouL_w6 : w4.heap.size < w6.heap.size := Nat.lt_of_lt_of_le ouL_W5 hb6.size
  have oL_w6 := hidP (OwnG.later oL_W5.out hb6)
  have acc_w6 := hidP (acc_W5.out.trans (hb6.mono acc_W5.out.size))
  have sz_w6 : Hid (W5.heap.size ≤ w6.heap.size) := hidP hb6.size
  clear hb6 bk0_W5 bk1_W5 bk2_W5 bkF_W5 bkL_W5 at0_W5 at1_W5 at2_W5 atF_W5 atL_W5 rs0_W5 rs1_W5 rs2_W5 rsF_W5 rsL_W5 ou0_W5 ou1_W5 ou2_W5 ouF_W5 ouL_W5 oL_W5 acc_W5
  go_wp2_with fail
  refine (HAd.out _).mono ?_
  rintro e w7 ⟨rfl, hb7⟩
  have bk0_w7 := (hb7.cell bkL_w6).trans bk0_w6
  have bk1_w7 := (hb7.cell bkL_w6).trans bk1_w6
  have bk2_w7 := (hb7.cell bkL_w6).trans bk2_w6
  have bkF_w7 : ∀ o, w7.frozen? ⟨w.heap.size, o, none⟩ = false := fun o => (hb7.frozen bkL_w6).trans (bkF_w6 o)
  have bkL_w7 : w.heap.size < w7.heap.size := Nat.lt_of_lt_of_le bkL_w6 hb7.size
  have at0_w7 := (hb7.cell atL_w6).trans at0_w6
  have at1_w7 := (hb7.cell atL_w6).trans at1_w6
  have at2_w7 := (hb7.cell atL_w6).trans at2_w6
  have atF_w7 : ∀ o, w7.frozen? ⟨w.heap.size + 1, o, none⟩ = false := fun o => (hb7.frozen atL_w6).trans (atF_w6 o)
  have atL_w7 : w.heap.size + 1 < w7.heap.size := Nat.lt_of_lt_of_le atL_w6 hb7.size
  have rs0_w7 := (hb7.cell rsL_w6).trans rs0_w6
  have rs1_w7 := (hb7.cell rsL_w6).trans rs1_w6
  have rs2_w7 := (hb7.cell rsL_w6).trans rs2_w6
  have rsF_w7 : ∀ o, w7.frozen? ⟨w.heap.size + 1 + 1, o, none⟩ = false := fun o => (hb7.frozen rsL_w6).trans (rsF_w6 o)
  have rsL_w7 : w.heap.size + 1 + 1 < w7.heap.size := Nat.lt_of_lt_of_le rsL_w6 hb7.size
  have ou0_w7 := (hb7.cell ouL_w6).trans ou0_w6
  have ou1_w7 := (hb7.cell ouL_w6).trans ou1_w6
  have ou2_w7 := (hb7.cell ouL_w6).trans ou2_w6
  have ouF_w7 : ∀ o, w7.frozen? ⟨w4.heap.size, o, none⟩ = false := fun o => (hb7.frozen ouL_w6).trans (ouF_w6 o)
  have ouL_w7 : w4.heap.size < w7.heap.size := Nat.lt_of_lt_of_le ouL_w6 hb7.size
  have oL_w7 := hidP (OwnG.later oL_w6.out hb7)
  have acc_w7 := hidP (acc_w6.out.trans (hb7.mono acc_w6.out.size))
  have sz_w7 : Hid (w6.heap.size ≤ w7.heap.size) := hidP hb7.size
  clear hb7 bk0_w6 bk1_w6 bk2_w6 bkF_w6 bkL_w6 at0_w6 at1_w6 at2_w6 atF_w6 atL_w6 rs0_w6 rs1_w6 rs2_w6 rsF_w6 rsL_w6 ou0_w6 ou1_w6 ou2_w6 ouF_w6 ouL_w6 oL_w6 acc_w6
  go_wp2_with fail
  refine (HLd.out _ acc_w7.out).mono ?_
  rintro e w8 ⟨rfl, hb8⟩
  have bk0_w8 := (hb8.cell bkL_w7).trans bk0_w7
  have bk1_w8 := (hb8.cell bkL_w7).trans bk1_w7
  have bk2_w8 := (hb8.cell bkL_w7).trans bk2_w7
  have bkF_w8 : ∀ o, w8.frozen? ⟨w.heap.size, o, none⟩ = false := fun o => (hb8.frozen bkL_w7).trans (bkF_w7 o)
  have bkL_w8 : w.heap.size < w8.heap.size := Nat.lt_of_lt_of_le bkL_w7 hb8.size
  have at0_w8 := (hb8.cell atL_w7).trans at0_w7
  have at1_w8 := (hb8.cell atL_w7).trans at1_w7
  have at2_w8 := (hb8.cell atL_w7).trans at2_w7
  have atF_w8 : ∀ o, w8.frozen? ⟨w.heap.size + 1, o, none⟩ = false := fun o => (hb8.frozen atL_w7).trans (atF_w7 o)
  have atL_w8 : w.heap.size + 1 < w8.heap.size := Nat.lt_of_lt_of_le atL_w7 hb8.size
  have rs0_w8 := (hb8.cell rsL_w7).trans rs0_w7
  have rs1_w8 := (hb8.cell rsL_w7).trans rs1_w7
  have rs2_w8 := (hb8.cell rsL_w7).trans rs2_w7
  have rsF_w8 : ∀ o, w8.frozen? ⟨w.heap.size + 1 + 1, o, none⟩ = false := fun o => (hb8.frozen rsL_w7).trans (rsF_w7 o)
  have rsL_w8 : w.heap.size + 1 + 1 < w8.heap.size := Nat.lt_of_lt_of_le rsL_w7 hb8.size
  have ou0_w8 := (hb8.cell ouL_w7).trans ou0_w7
  have ou1_w8 := (hb8.cell ouL_w7).trans ou1_w7
  have ou2_w8 := (hb8.cell ouL_w7).trans ou2_w7
  have ouF_w8 : ∀ o, w8.frozen? ⟨w4.heap.size, o, none⟩ = false := fun o => (hb8.frozen ouL_w7).trans (ouF_w7 o)
  have ouL_w8 : w4.heap.size < w8.heap.size := Nat.lt_of_lt_of_le ouL_w7 hb8.size
  have oL_w8 := hidP (OwnG.later oL_w7.out hb8)
  have acc_w8 := hidP (acc_w7.out.trans (hb8.mono acc_w7.out.size))
  have sz_w8 : Hid (w7.heap.size ≤ w8.heap.size) := hidP hb8.size
  clear hb8 bk0_w7 bk1_w7 bk2_w7 bkF_w7 bkL_w7 at0_w7 at1_w7 at2_w7 atF_w7 atL_w7 rs0_w7 rs1_w7 rs2_w7 rsF_w7 rsL_w7 ou0_w7 ou1_w7 ou2_w7 ouF_w7 ouL_w7 oL_w7 acc_w7
  go_wp2_with fail
  refine bodyPost_ret (v := .tuple #[.agg #[.slice a3 n c3, .int .i64 T, .int .i64 N], .int .i64 x]) (by simp [results, Tryz.results58, go_sem, rs0_w8, rs1_w8, rs2_w8]) rfl ⟨_, _, rfl, ?_, ?_⟩
  · refine OwnG.mono (B := W3.heap.size) ?_ (by have := as_W1.out; have := sz_W1.out; have := as_W2.out; have := sz_W2.out; have := as_W3.out; have := sz_W3.out; have := sz_w4.out; have := as_W5.out; have := sz_W5.out; have := sz_w6.out; have := sz_w7.out; have := sz_w8.out; omega)
    iterate 3 (with_reducible refine OwnG.grown ?_ (grown_cellG _ _ _ _) ?_; rotate_left; (focus (exact OwnG.ne_of oL_w8.out (by have := as_W1.out; have := sz_W1.out; have := as_W2.out; have := sz_W2.out; have := as_W3.out; have := sz_W3.out; have := sz_w4.out; have := as_W5.out; have := sz_W5.out; have := sz_w6.out; have := sz_w7.out; have := sz_w8.out; omega))))
    with_reducible exact oL_w8.out
  · repeat (with_reducible refine Below.setCell ?_ ?_ _; rotate_left; (focus (first | (simp; done) | (simp; omega))))
    exact acc_w8.out

set_option maxRecDepth 10000 in
set_option maxHeartbeats 4000000 in
theorem sRel_yes0 (g n : Nat) (T N : Int) (ls : List Ls) (ad : Ad) (tk : Int) (w : World) (hn : n = ls.length) (hB : RowG KLs w (some ⟨g, 0, none⟩) ls) (hl : n ≤ 1048576) (hst : ∀ q ∈ ls, q.t.size ≤ 9223372036854775807) (hr : (bkB ls T N && ad.ok) = true) (I : Nat) (hI : I < n) (hcj : n = I + 1) (HL : ∀ W, Below w.heap.size w W → Calls Tryz.prog 73 #[.agg #[.slice (some ⟨g, 0, none⟩) n n, .int .i64 T, .int .i64 N], .agg #[.bool ad.s, .int .i64 ad.H.toInt, .int .i64 ad.L.toInt], .int .i64 tk] W fun e w' => e = .returned (.tuple #[.int .i64 I, .int .i64 0]) ∧ Below W.heap.size W w') :
    Calls Tryz.prog 58 #[.agg #[.slice (some ⟨g, 0, none⟩) n n, .int .i64 T, .int .i64 N], .agg #[.bool ad.s, .int .i64 ad.H.toInt, .int .i64 ad.L.toInt], .int .i64 tk] w fun e w' => ∃ a' c', e = .returned (.tuple #[.agg #[.slice a' (n - 1) c', .int .i64 T, .int .i64 N], .int .i64 0]) ∧ OwnG KLs 35 w' w.heap.size (.slice a' (n - 1) c') (ls.eraseIdx I) ∧ Below w.heap.size w w' := by
  subst hcj
  have b2 : (I : Int) ≤ (I : Int) + 1 := by omega
  have HOw := hidP (fun W h => l6Copy_any (some ⟨g, 0, none⟩) (I + 1) (I + 1) T N ls W hn (hB.later h) (fun h => by cases h) hl)
  have HSp := hidP (fun W h => sBookOk_any (some ⟨g, 0, none⟩) (I + 1) (I + 1) T N ls W hn (hB.later h) hl hst)
  have HAd := hidP (sAddrOk_any ad.s ad.H.toInt ad.L.toInt)
  have HN := hidP hn
  have HR := hidP (fun W h => hB.later (w' := W) h)
  rw [Bool.and_eq_true] at hr
  have hok' : okB ad.s ad.H.toInt ad.L.toInt = true := hr.2
  rw [hr.1] at HSp
  rw [hok'] at HAd
  clear hB hn hst hr hok'
  have HLd := hidP HL
  have hl1 : (ls.take I).length = I := by rw [List.length_take]; have := HN.out; omega
  have hl2 : (ls.drop (I + 1)).length = (I + 1) - (I + 1) := by rw [List.length_drop, HN.out]
  have HLn := hidP (And.intro hl1 hl2)
  have hi0 : (0 : Int) ≤ (I : Int) := by omega
  have hi1 : (I : Int) ≤ ((I + 1) : Int) := by omega
  have hi2 : (I : Int) + 1 ≤ ((I + 1) : Int) := by omega
  have hi3 : (0 : Int) ≤ (I : Int) + 1 := by omega
  have wi : IntKind.i64.wrap ((I : Int) + 1) = (I : Int) + 1 := by rw [IntKind.wrap_i64]; omega
  have HRW := hidP (HR.out)
  clear HL hl1 hl2
  go_enter Tryz.func58, Tryz.ntmps58
  go_wp2_with fail
  obtain ⟨bk0_W1, bk1_W1, bk2_W1⟩ := box3B w 26 (.slice (some ⟨g, 0, none⟩) (I + 1) (I + 1)) (.int .i64 T) (.int .i64 N)
  have bkF_W1 : ∀ o, (w.alloc (.cells #[.slice (some ⟨g, 0, none⟩) (I + 1) (I + 1), .int .i64 T, .int .i64 N] 26)).frozen? ⟨w.heap.size, o, none⟩ = false := fun o => by simp [go_sem]
  have bkL_W1 : w.heap.size < (w.alloc (.cells #[.slice (some ⟨g, 0, none⟩) (I + 1) (I + 1), .int .i64 T, .int .i64 N] 26)).heap.size := by simp
  have ab_W1 := alloc_below w (.cells #[.slice (some ⟨g, 0, none⟩) (I + 1) (I + 1), .int .i64 T, .int .i64 N] 26)
  have as_W1 : Hid ((w.alloc (.cells #[.slice (some ⟨g, 0, none⟩) (I + 1) (I + 1), .int .i64 T, .int .i64 N] 26)).heap.size = w.heap.size + 1) := hidP (by simp)
  generalize w.alloc (.cells #[.slice (some ⟨g, 0, none⟩) (I + 1) (I + 1), .int .i64 T, .int .i64 N] 26) = W1 at *
  have acc_W1 := hidP (ab_W1)
  have sz_W1 : Hid (w.heap.size ≤ W1.heap.size) := hidP ab_W1.size
  clear ab_W1 
  obtain ⟨at0_W2, at1_W2, at2_W2⟩ := box3B W1 28 (.bool ad.s) (.int .i64 ad.H.toInt) (.int .i64 ad.L.toInt)
  have atF_W2 : ∀ o, (W1.alloc (.cells #[.bool ad.s, .int .i64 ad.H.toInt, .int .i64 ad.L.toInt] 28)).frozen? ⟨W1.heap.size, o, none⟩ = false := fun o => by simp [go_sem]
  have atL_W2 : W1.heap.size < (W1.alloc (.cells #[.bool ad.s, .int .i64 ad.H.toInt, .int .i64 ad.L.toInt] 28)).heap.size := by simp
  have ab_W2 := alloc_below W1 (.cells #[.bool ad.s, .int .i64 ad.H.toInt, .int .i64 ad.L.toInt] 28)
  have as_W2 : Hid ((W1.alloc (.cells #[.bool ad.s, .int .i64 ad.H.toInt, .int .i64 ad.L.toInt] 28)).heap.size = W1.heap.size + 1) := hidP (by simp)
  generalize W1.alloc (.cells #[.bool ad.s, .int .i64 ad.H.toInt, .int .i64 ad.L.toInt] 28) = W2 at *
  have bk0_W2 := (ab_W2.cell bkL_W1).trans bk0_W1
  have bk1_W2 := (ab_W2.cell bkL_W1).trans bk1_W1
  have bk2_W2 := (ab_W2.cell bkL_W1).trans bk2_W1
  have bkF_W2 : ∀ o, W2.frozen? ⟨w.heap.size, o, none⟩ = false := fun o => (ab_W2.frozen bkL_W1).trans (bkF_W1 o)
  have bkL_W2 : w.heap.size < W2.heap.size := Nat.lt_of_lt_of_le bkL_W1 ab_W2.size
  have acc_W2 := hidP (acc_W1.out.trans (ab_W2.mono acc_W1.out.size))
  have sz_W2 : Hid (W1.heap.size ≤ W2.heap.size) := hidP ab_W2.size
  clear ab_W2 bk0_W1 bk1_W1 bk2_W1 bkF_W1 bkL_W1 acc_W1
  rw [as_W1.out] at at0_W2 at1_W2 at2_W2 atL_W2
  have atF_W2' : ∀ o, W2.frozen? ⟨w.heap.size + 1, o, none⟩ = false := fun o => by have := atF_W2 o; rw [as_W1.out] at this; exact this
  clear atF_W2
  have atF_W2 := atF_W2'
  clear atF_W2'
  obtain ⟨rs0_W3, rs1_W3, rs2_W3⟩ := box3B W2 26 (.slice none 0 0) (.int .i64 0) (.int .i64 0)
  have rsF_W3 : ∀ o, (W2.alloc (.cells #[.slice none 0 0, .int .i64 0, .int .i64 0] 26)).frozen? ⟨W2.heap.size, o, none⟩ = false := fun o => by simp [go_sem]
  have rsL_W3 : W2.heap.size < (W2.alloc (.cells #[.slice none 0 0, .int .i64 0, .int .i64 0] 26)).heap.size := by simp
  have ab_W3 := alloc_below W2 (.cells #[.slice none 0 0, .int .i64 0, .int .i64 0] 26)
  have as_W3 : Hid ((W2.alloc (.cells #[.slice none 0 0, .int .i64 0, .int .i64 0] 26)).heap.size = W2.heap.size + 1) := hidP (by simp)
  generalize W2.alloc (.cells #[.slice none 0 0, .int .i64 0, .int .i64 0] 26) = W3 at *
  have bk0_W3 := (ab_W3.cell bkL_W2).trans bk0_W2
  have bk1_W3 := (ab_W3.cell bkL_W2).trans bk1_W2
  have bk2_W3 := (ab_W3.cell bkL_W2).trans bk2_W2
  have bkF_W3 : ∀ o, W3.frozen? ⟨w.heap.size, o, none⟩ = false := fun o => (ab_W3.frozen bkL_W2).trans (bkF_W2 o)
  have bkL_W3 : w.heap.size < W3.heap.size := Nat.lt_of_lt_of_le bkL_W2 ab_W3.size
  have at0_W3 := (ab_W3.cell atL_W2).trans at0_W2
  have at1_W3 := (ab_W3.cell atL_W2).trans at1_W2
  have at2_W3 := (ab_W3.cell atL_W2).trans at2_W2
  have atF_W3 : ∀ o, W3.frozen? ⟨w.heap.size + 1, o, none⟩ = false := fun o => (ab_W3.frozen atL_W2).trans (atF_W2 o)
  have atL_W3 : w.heap.size + 1 < W3.heap.size := Nat.lt_of_lt_of_le atL_W2 ab_W3.size
  have acc_W3 := hidP (acc_W2.out.trans (ab_W3.mono acc_W2.out.size))
  have sz_W3 : Hid (W2.heap.size ≤ W3.heap.size) := hidP ab_W3.size
  clear ab_W3 bk0_W2 bk1_W2 bk2_W2 bkF_W2 bkL_W2 at0_W2 at1_W2 at2_W2 atF_W2 atL_W2 acc_W2
  rw [as_W2.out, as_W1.out] at rs0_W3 rs1_W3 rs2_W3 rsL_W3
  have rsF_W3' : ∀ o, W3.frozen? ⟨w.heap.size + 1 + 1, o, none⟩ = false := fun o => by have := rsF_W3 o; rw [as_W2.out, as_W1.out] at this; exact this
  clear rsF_W3
  have rsF_W3 := rsF_W3'
  clear rsF_W3'
  refine (HOw.out _ acc_W3.out).mono ?_
  rintro e w4 ⟨a3, c3, rfl, og3, hb4⟩
  have og3' := hidP og3
  clear og3
  have bk0_w4 := (hb4.cell bkL_W3).trans bk0_W3
  have bk1_w4 := (hb4.cell bkL_W3).trans bk1_W3
  have bk2_w4 := (hb4.cell bkL_W3).trans bk2_W3
  have bkF_w4 : ∀ o, w4.frozen? ⟨w.heap.size, o, none⟩ = false := fun o => (hb4.frozen bkL_W3).trans (bkF_W3 o)
  have bkL_w4 : w.heap.size < w4.heap.size := Nat.lt_of_lt_of_le bkL_W3 hb4.size
  have at0_w4 := (hb4.cell atL_W3).trans at0_W3
  have at1_w4 := (hb4.cell atL_W3).trans at1_W3
  have at2_w4 := (hb4.cell atL_W3).trans at2_W3
  have atF_w4 : ∀ o, w4.frozen? ⟨w.heap.size + 1, o, none⟩ = false := fun o => (hb4.frozen atL_W3).trans (atF_W3 o)
  have atL_w4 : w.heap.size + 1 < w4.heap.size := Nat.lt_of_lt_of_le atL_W3 hb4.size
  have rs0_w4 := (hb4.cell rsL_W3).trans rs0_W3
  have rs1_w4 := (hb4.cell rsL_W3).trans rs1_W3
  have rs2_w4 := (hb4.cell rsL_W3).trans rs2_W3
  have rsF_w4 : ∀ o, w4.frozen? ⟨w.heap.size + 1 + 1, o, none⟩ = false := fun o => (hb4.frozen rsL_W3).trans (rsF_W3 o)
  have rsL_w4 : w.heap.size + 1 + 1 < w4.heap.size := Nat.lt_of_lt_of_le rsL_W3 hb4.size
  have acc_w4 := hidP (acc_W3.out.trans (hb4.mono acc_W3.out.size))
  have sz_w4 : Hid (W3.heap.size ≤ w4.heap.size) := hidP hb4.size
  clear hb4 bk0_W3 bk1_W3 bk2_W3 bkF_W3 bkL_W3 at0_W3 at1_W3 at2_W3 atF_W3 atL_W3 rs0_W3 rs1_W3 rs2_W3 rsF_W3 rsL_W3 acc_W3
  have oL_w4 := hidP (og3'.out)
  have lhL : Hid (∀ k, (Value.slice a3 (I + 1) c3).ownBlock = some k → W3.heap.size ≤ k ∧ k < w4.heap.size) := hidP (fun k hk => OwnG.lt oL_w4.out k hk)
  clear og3'
  go_wp2_with fail
  obtain ⟨ou0_W5, ou1_W5, ou2_W5⟩ := box3B w4 26 (.slice a3 (I + 1) c3) (.int .i64 T) (.int .i64 N)
  have ouF_W5 : ∀ o, (w4.alloc (.cells #[.slice a3 (I + 1) c3, .int .i64 T, .int .i64 N] 26)).frozen? ⟨w4.heap.size, o, none⟩ = false := fun o => by simp [go_sem]
  have ouL_W5 : w4.heap.size < (w4.alloc (.cells #[.slice a3 (I + 1) c3, .int .i64 T, .int .i64 N] 26)).heap.size := by simp
  have ab_W5 := alloc_below w4 (.cells #[.slice a3 (I + 1) c3, .int .i64 T, .int .i64 N] 26)
  have as_W5 : Hid ((w4.alloc (.cells #[.slice a3 (I + 1) c3, .int .i64 T, .int .i64 N] 26)).heap.size = w4.heap.size + 1) := hidP (by simp)
  generalize w4.alloc (.cells #[.slice a3 (I + 1) c3, .int .i64 T, .int .i64 N] 26) = W5 at *
  have bk0_W5 := (ab_W5.cell bkL_w4).trans bk0_w4
  have bk1_W5 := (ab_W5.cell bkL_w4).trans bk1_w4
  have bk2_W5 := (ab_W5.cell bkL_w4).trans bk2_w4
  have bkF_W5 : ∀ o, W5.frozen? ⟨w.heap.size, o, none⟩ = false := fun o => (ab_W5.frozen bkL_w4).trans (bkF_w4 o)
  have bkL_W5 : w.heap.size < W5.heap.size := Nat.lt_of_lt_of_le bkL_w4 ab_W5.size
  have at0_W5 := (ab_W5.cell atL_w4).trans at0_w4
  have at1_W5 := (ab_W5.cell atL_w4).trans at1_w4
  have at2_W5 := (ab_W5.cell atL_w4).trans at2_w4
  have atF_W5 : ∀ o, W5.frozen? ⟨w.heap.size + 1, o, none⟩ = false := fun o => (ab_W5.frozen atL_w4).trans (atF_w4 o)
  have atL_W5 : w.heap.size + 1 < W5.heap.size := Nat.lt_of_lt_of_le atL_w4 ab_W5.size
  have rs0_W5 := (ab_W5.cell rsL_w4).trans rs0_w4
  have rs1_W5 := (ab_W5.cell rsL_w4).trans rs1_w4
  have rs2_W5 := (ab_W5.cell rsL_w4).trans rs2_w4
  have rsF_W5 : ∀ o, W5.frozen? ⟨w.heap.size + 1 + 1, o, none⟩ = false := fun o => (ab_W5.frozen rsL_w4).trans (rsF_w4 o)
  have rsL_W5 : w.heap.size + 1 + 1 < W5.heap.size := Nat.lt_of_lt_of_le rsL_w4 ab_W5.size
  have oL_W5 := hidP (OwnG.later oL_w4.out ab_W5)
  have acc_W5 := hidP (acc_w4.out.trans (ab_W5.mono acc_w4.out.size))
  have sz_W5 : Hid (w4.heap.size ≤ W5.heap.size) := hidP ab_W5.size
  clear ab_W5 bk0_w4 bk1_w4 bk2_w4 bkF_w4 bkL_w4 at0_w4 at1_w4 at2_w4 atF_w4 atL_w4 rs0_w4 rs1_w4 rs2_w4 rsF_w4 rsL_w4 oL_w4 acc_w4
  refine (HSp.out _ acc_W5.out).mono ?_
  rintro e w6 ⟨rfl, hb6⟩
  have bk0_w6 := (hb6.cell bkL_W5).trans bk0_W5
  have bk1_w6 := (hb6.cell bkL_W5).trans bk1_W5
  have bk2_w6 := (hb6.cell bkL_W5).trans bk2_W5
  have bkF_w6 : ∀ o, w6.frozen? ⟨w.heap.size, o, none⟩ = false := fun o => (hb6.frozen bkL_W5).trans (bkF_W5 o)
  have bkL_w6 : w.heap.size < w6.heap.size := Nat.lt_of_lt_of_le bkL_W5 hb6.size
  have at0_w6 := (hb6.cell atL_W5).trans at0_W5
  have at1_w6 := (hb6.cell atL_W5).trans at1_W5
  have at2_w6 := (hb6.cell atL_W5).trans at2_W5
  have atF_w6 : ∀ o, w6.frozen? ⟨w.heap.size + 1, o, none⟩ = false := fun o => (hb6.frozen atL_W5).trans (atF_W5 o)
  have atL_w6 : w.heap.size + 1 < w6.heap.size := Nat.lt_of_lt_of_le atL_W5 hb6.size
  have rs0_w6 := (hb6.cell rsL_W5).trans rs0_W5
  have rs1_w6 := (hb6.cell rsL_W5).trans rs1_W5
  have rs2_w6 := (hb6.cell rsL_W5).trans rs2_W5
  have rsF_w6 : ∀ o, w6.frozen? ⟨w.heap.size + 1 + 1, o, none⟩ = false := fun o => (hb6.frozen rsL_W5).trans (rsF_W5 o)
  have rsL_w6 : w.heap.size + 1 + 1 < w6.heap.size := Nat.lt_of_lt_of_le rsL_W5 hb6.size
  have ou0_w6 := (hb6.cell ouL_W5).trans ou0_W5
  have ou1_w6 := (hb6.cell ouL_W5).trans ou1_W5
  have ou2_w6 := (hb6.cell ouL_W5).trans ou2_W5
  have ouF_w6 : ∀ o, w6.frozen? ⟨w4.heap.size, o, none⟩ = false := fun o => (hb6.frozen ouL_W5).trans (ouF_W5 o)
  have ouL_w6 : w4.heap.size < w6.heap.size := Nat.lt_of_lt_of_le ouL_W5 hb6.size
  have oL_w6 := hidP (OwnG.later oL_W5.out hb6)
  have acc_w6 := hidP (acc_W5.out.trans (hb6.mono acc_W5.out.size))
  have sz_w6 : Hid (W5.heap.size ≤ w6.heap.size) := hidP hb6.size
  clear hb6 bk0_W5 bk1_W5 bk2_W5 bkF_W5 bkL_W5 at0_W5 at1_W5 at2_W5 atF_W5 atL_W5 rs0_W5 rs1_W5 rs2_W5 rsF_W5 rsL_W5 ou0_W5 ou1_W5 ou2_W5 ouF_W5 ouL_W5 oL_W5 acc_W5
  go_wp2_with fail
  refine (HAd.out _).mono ?_
  rintro e w7 ⟨rfl, hb7⟩
  have bk0_w7 := (hb7.cell bkL_w6).trans bk0_w6
  have bk1_w7 := (hb7.cell bkL_w6).trans bk1_w6
  have bk2_w7 := (hb7.cell bkL_w6).trans bk2_w6
  have bkF_w7 : ∀ o, w7.frozen? ⟨w.heap.size, o, none⟩ = false := fun o => (hb7.frozen bkL_w6).trans (bkF_w6 o)
  have bkL_w7 : w.heap.size < w7.heap.size := Nat.lt_of_lt_of_le bkL_w6 hb7.size
  have at0_w7 := (hb7.cell atL_w6).trans at0_w6
  have at1_w7 := (hb7.cell atL_w6).trans at1_w6
  have at2_w7 := (hb7.cell atL_w6).trans at2_w6
  have atF_w7 : ∀ o, w7.frozen? ⟨w.heap.size + 1, o, none⟩ = false := fun o => (hb7.frozen atL_w6).trans (atF_w6 o)
  have atL_w7 : w.heap.size + 1 < w7.heap.size := Nat.lt_of_lt_of_le atL_w6 hb7.size
  have rs0_w7 := (hb7.cell rsL_w6).trans rs0_w6
  have rs1_w7 := (hb7.cell rsL_w6).trans rs1_w6
  have rs2_w7 := (hb7.cell rsL_w6).trans rs2_w6
  have rsF_w7 : ∀ o, w7.frozen? ⟨w.heap.size + 1 + 1, o, none⟩ = false := fun o => (hb7.frozen rsL_w6).trans (rsF_w6 o)
  have rsL_w7 : w.heap.size + 1 + 1 < w7.heap.size := Nat.lt_of_lt_of_le rsL_w6 hb7.size
  have ou0_w7 := (hb7.cell ouL_w6).trans ou0_w6
  have ou1_w7 := (hb7.cell ouL_w6).trans ou1_w6
  have ou2_w7 := (hb7.cell ouL_w6).trans ou2_w6
  have ouF_w7 : ∀ o, w7.frozen? ⟨w4.heap.size, o, none⟩ = false := fun o => (hb7.frozen ouL_w6).trans (ouF_w6 o)
  have ouL_w7 : w4.heap.size < w7.heap.size := Nat.lt_of_lt_of_le ouL_w6 hb7.size
  have oL_w7 := hidP (OwnG.later oL_w6.out hb7)
  have acc_w7 := hidP (acc_w6.out.trans (hb7.mono acc_w6.out.size))
  have sz_w7 : Hid (w6.heap.size ≤ w7.heap.size) := hidP hb7.size
  clear hb7 bk0_w6 bk1_w6 bk2_w6 bkF_w6 bkL_w6 at0_w6 at1_w6 at2_w6 atF_w6 atL_w6 rs0_w6 rs1_w6 rs2_w6 rsF_w6 rsL_w6 ou0_w6 ou1_w6 ou2_w6 ouF_w6 ouL_w6 oL_w6 acc_w6
  go_wp2_with fail
  refine (HLd.out _ acc_w7.out).mono ?_
  rintro e w8 ⟨rfl, hb8⟩
  have bk0_w8 := (hb8.cell bkL_w7).trans bk0_w7
  have bk1_w8 := (hb8.cell bkL_w7).trans bk1_w7
  have bk2_w8 := (hb8.cell bkL_w7).trans bk2_w7
  have bkF_w8 : ∀ o, w8.frozen? ⟨w.heap.size, o, none⟩ = false := fun o => (hb8.frozen bkL_w7).trans (bkF_w7 o)
  have bkL_w8 : w.heap.size < w8.heap.size := Nat.lt_of_lt_of_le bkL_w7 hb8.size
  have at0_w8 := (hb8.cell atL_w7).trans at0_w7
  have at1_w8 := (hb8.cell atL_w7).trans at1_w7
  have at2_w8 := (hb8.cell atL_w7).trans at2_w7
  have atF_w8 : ∀ o, w8.frozen? ⟨w.heap.size + 1, o, none⟩ = false := fun o => (hb8.frozen atL_w7).trans (atF_w7 o)
  have atL_w8 : w.heap.size + 1 < w8.heap.size := Nat.lt_of_lt_of_le atL_w7 hb8.size
  have rs0_w8 := (hb8.cell rsL_w7).trans rs0_w7
  have rs1_w8 := (hb8.cell rsL_w7).trans rs1_w7
  have rs2_w8 := (hb8.cell rsL_w7).trans rs2_w7
  have rsF_w8 : ∀ o, w8.frozen? ⟨w.heap.size + 1 + 1, o, none⟩ = false := fun o => (hb8.frozen rsL_w7).trans (rsF_w7 o)
  have rsL_w8 : w.heap.size + 1 + 1 < w8.heap.size := Nat.lt_of_lt_of_le rsL_w7 hb8.size
  have ou0_w8 := (hb8.cell ouL_w7).trans ou0_w7
  have ou1_w8 := (hb8.cell ouL_w7).trans ou1_w7
  have ou2_w8 := (hb8.cell ouL_w7).trans ou2_w7
  have ouF_w8 : ∀ o, w8.frozen? ⟨w4.heap.size, o, none⟩ = false := fun o => (hb8.frozen ouL_w7).trans (ouF_w7 o)
  have ouL_w8 : w4.heap.size < w8.heap.size := Nat.lt_of_lt_of_le ouL_w7 hb8.size
  have oL_w8 := hidP (OwnG.later oL_w7.out hb8)
  have acc_w8 := hidP (acc_w7.out.trans (hb8.mono acc_w7.out.size))
  have sz_w8 : Hid (w7.heap.size ≤ w8.heap.size) := hidP hb8.size
  clear hb8 bk0_w7 bk1_w7 bk2_w7 bkF_w7 bkL_w7 at0_w7 at1_w7 at2_w7 atF_w7 atL_w7 rs0_w7 rs1_w7 rs2_w7 rsF_w7 rsL_w7 ou0_w7 ou1_w7 ou2_w7 ouF_w7 ouL_w7 oL_w7 acc_w7
  go_wp2_with fail
  have hBW : w4.heap.size ≤ w8.heap.size := (by have := as_W1.out; have := sz_W1.out; have := as_W2.out; have := sz_W2.out; have := as_W3.out; have := sz_W3.out; have := sz_w4.out; have := as_W5.out; have := sz_W5.out; have := sz_w6.out; have := sz_w7.out; have := sz_w8.out; omega)
  have l0 : w.heap.size < w4.heap.size := (by have := as_W1.out; have := sz_W1.out; have := as_W2.out; have := sz_W2.out; have := as_W3.out; have := sz_W3.out; have := sz_w4.out; have := as_W5.out; have := sz_W5.out; have := sz_w6.out; have := sz_w7.out; have := sz_w8.out; omega)
  have HSx : Hid (∀ x, Below w4.heap.size w8 x → (x.cell? ⟨w.heap.size, 0, none⟩ = some (.slice (some ⟨g, 0, none⟩) (I + 1) (I + 1)) ∧ Below w4.heap.size w8 x)) := hidP fun x h =>
    ⟨(h.cell l0).trans bk0_w8, h⟩
  refine wp_region_held_drew (S := (fun x => x.cell? ⟨w.heap.size, 0, none⟩ = some (.slice (some ⟨g, 0, none⟩) (I + 1) (I + 1)) ∧ Below w4.heap.size w8 x)) (by kernel_rfl) ?_ (fun hHeld => ?_)
  · try dsimp only
    exact HSx.out _ (Below.refl _ _).drew
  refine tkA 1 32 (v := ?_) rfl (by kernel_rfl) (fun _ _ _ h => h) (by rfl) ?_ (by assumption) ?_; rotate_left; · (intro w hSw; (try dsimp only at hSw); go_simp; try with_reducible rfl)
  simp only [Act.put, List.setIfInBounds_toArray, List.set_cons_zero, List.set_cons_succ]
  refine tkA 2 33 (v := ?_) rfl (by kernel_rfl) (fun _ _ _ h => h) (by rfl) ?_ (by assumption) ?_; rotate_left; · (intro w hSw; (try dsimp only at hSw); go_simp; try with_reducible rfl)
  simp only [Act.put, List.setIfInBounds_toArray, List.set_cons_zero, List.set_cons_succ]
  refine tkA 3 34 (v := ?_) rfl (by kernel_rfl) (fun _ _ _ h => h) (by rfl) ?_ (by assumption) ?_; rotate_left; · (intro w hSw; (try dsimp only at hSw); go_simp; try with_reducible rfl)
  simp only [Act.put, List.setIfInBounds_toArray, List.set_cons_zero, List.set_cons_succ]
  refine tkA 4 35 (v := ?_) rfl (by kernel_rfl) (fun _ _ _ h => h) (by rfl) ?_ (by assumption) ?_; rotate_left; · (intro w hSw; (try dsimp only at hSw); go_simp; try with_reducible rfl)
  simp only [Act.put, List.setIfInBounds_toArray, List.set_cons_zero, List.set_cons_succ]
  refine tkA 6 37 (v := ?_) rfl (by kernel_rfl) (fun _ _ _ h => h) (by rfl) ?_ (by assumption) ?_; rotate_left; · (intro w hSw; (try dsimp only at hSw); go_simp; try with_reducible rfl)
  simp only [Act.put, List.setIfInBounds_toArray, List.set_cons_zero, List.set_cons_succ]
  refine tkA 7 38 (v := ?_) rfl (by kernel_rfl) (fun _ _ _ h => h) (by rfl) ?_ (by assumption) ?_; rotate_left; · (intro w hSw; (try dsimp only at hSw); go_simp; try with_reducible rfl)
  simp only [Act.put, List.setIfInBounds_toArray, List.set_cons_zero, List.set_cons_succ]
  refine tkA 8 39 (v := ?_) rfl (by kernel_rfl) (fun _ _ _ h => h) (by rfl) ?_ (by assumption) ?_; rotate_left; · (intro w hSw; (try dsimp only at hSw); go_simp; try with_reducible rfl)
  simp only [Act.put, List.setIfInBounds_toArray, List.set_cons_zero, List.set_cons_succ]
  refine tkA 9 40 (v := ?_) rfl (by kernel_rfl) (fun _ _ _ h => h) (by rfl) ?_ (by assumption) ?_; rotate_left; · (intro w hSw; (try dsimp only at hSw); go_simp; try with_reducible rfl)
  simp only [Act.put, List.setIfInBounds_toArray, List.set_cons_zero, List.set_cons_succ]
  refine tkA 10 41 (v := ?_) rfl (by kernel_rfl) (fun _ _ _ h => h) (by rfl) ?_ (by assumption) ?_; rotate_left; · (intro w hSw; (try dsimp only at hSw); go_simp; try with_reducible rfl)
  simp only [Act.put, List.setIfInBounds_toArray, List.set_cons_zero, List.set_cons_succ]
  refine wpAnyH_ready (rs := [0]) (by kernel_rfl) (by simp) ?_
  refine AllReadyH.cons rfl (fun K hK => ?_) AllReadyH.nil
  go_simp
  have z1 := OwnG.drewG (own_zeroG KLs w8 w8.heap.size 35 (Nat.le_refl _))
  have zb1 := (alloc_below w8 (.cells #[] 35)).drew
  have zs1 : w8.heap.size + 1 ≤ (w8.alloc (.cells #[] 35)).drew.heap.size := by show w8.heap.size + 1 ≤ (w8.alloc (.cells #[] 35)).heap.size; simp
  generalize (w8.alloc (.cells #[] 35)).drew = v1 at *
  refine hK.out _ _ ?_ (fun hHeld => ?_)
  · try dsimp only
    exact HSx.out _ (zb1.mono hBW)
  clear hK K
  refine wpAnyH_ready (rs := [5]) (by kernel_rfl) (by simp) ?_
  refine AllReadyH.cons rfl (fun K hK => ?_) AllReadyH.nil
  have rw1 : Below w.heap.size w v1 := acc_w8.out.trans (zb1.mono acc_w8.out.size)
  refine step_appG Tryz.tyLs _ rfl (.tmp 31) (.tmp 35) 24 rfl w8.heap.size (some ⟨w8.heap.size, 0, none⟩) 0 0 I [] (ls.take I) (.slice (some ⟨g, 0, none⟩) I (I + 1)) rfl rfl HLn.out.1.symm z1 rfl (src_rowG Tryz.tyLs.1 I (I + 1) (by show 0 < 6; omega) HLn.out.1.symm (RowG.takeG (HRW.out _ rw1) I) (fun e => by cases e)) (by omega) (by omega) ?_
  intro a2 c2 v2 ho2 hg2 ht2
  rw [Nat.zero_add, List.nil_append] at ho2
  have zs2 := hg2.size
  have zb2 := Below.grown zb1 hg2 zb1.size (fun j hj => by rw [ob_some, Option.some.injEq] at hj; omega)
  rw [Nat.zero_add]
  refine hK.out _ _ ?_ (fun hHeld => ?_)
  · try dsimp only
    exact HSx.out _ (zb2.mono hBW)
  clear hK K
  refine wpAnyH_ready (rs := [11]) (by kernel_rfl) (by simp) ?_
  refine AllReadyH.cons rfl (fun K hK => ?_) AllReadyH.nil
  have rw2 : Below w.heap.size w v2 := acc_w8.out.trans (zb2.mono acc_w8.out.size)
  refine step_appG Tryz.tyLs _ rfl (.tmp 36) (.tmp 41) 24 rfl w8.heap.size a2 I c2 ((I + 1) - (I + 1)) (ls.take I) (ls.drop (I + 1)) (.slice (some ⟨g, 0, none⟩) ((I + 1) - (I + 1)) 0) rfl HLn.out.1.symm HLn.out.2.symm ho2 (by rw [Nat.sub_self]; rfl) (src_rowG Tryz.tyLs.1 _ _ (by show 0 < 6; omega) HLn.out.2.symm (fun j hj => by rw [HLn.out.2] at hj; omega) (fun e => by cases e)) (by omega) (by omega) ?_
  intro a5 c5 v3 ho3 hg3 ht3
  have lo2 := fun j hj => (OwnG.lt ho2 j hj).1
  have zb3 := Below.grown zb2 hg3 zb2.size (fun j hj => by have := lo2 j hj; omega)
  have heM : I + ((I + 1) - (I + 1)) = I := by omega
  rw [heM, erase_eq] at ho3
  rw [heM]
  refine hK.out _ _ ?_ (fun hHeld => ?_)
  · try dsimp only
    exact HSx.out _ (zb3.mono hBW)
  clear hK K
  refine tkA 12 43 (v := ?_) rfl (by kernel_rfl) (fun _ _ _ h => h) (by rfl) ?_ (by assumption) ?_; rotate_left; · (intro w hSw; (try dsimp only at hSw); go_simp; try with_reducible rfl)
  simp only [Act.put, List.setIfInBounds_toArray]
  have t0 := (zb3.cell ouL_w8).trans ou0_w8
  have t1 := (zb3.cell ouL_w8).trans ou1_w8
  have t2 := (zb3.cell ouL_w8).trans ou2_w8
  have tF : ∀ o, v3.frozen? ⟨w4.heap.size, o, none⟩ = false := fun o => (zb3.frozen ouL_w8).trans (ouF_w8 o)
  refine wpAnyH_ready (rs := [13]) (by kernel_rfl) (by simp) ?_
  refine AllReadyH.cons rfl (fun K hK => ?_) AllReadyH.nil
  go_simp
  refine hK.out _ _ ?_ (fun hHeld => ?_)
  · try dsimp only
    exact HSx.out _ ((zb3.mono hBW).setCell (Nat.le_refl _) _)
  clear hK K
  have HE := hidP (hHeld.2)
  refine wpAnyH_done (by kernel_rfl) ?_ _
  clear hHeld
  clear HE HSx t0 t1 t2 tF
  have HO3 := hidP ho3
  clear ho3 hg3 ht3 ho2 hg2 ht2 z1 lo2
  have zb3' := zb3
  clear zb3 zb2 zb1
  have bk0_v3 := (zb3'.cell bkL_w8).trans bk0_w8
  have bk1_v3 := (zb3'.cell bkL_w8).trans bk1_w8
  have bk2_v3 := (zb3'.cell bkL_w8).trans bk2_w8
  have bkF_v3 : ∀ o, v3.frozen? ⟨w.heap.size, o, none⟩ = false := fun o => (zb3'.frozen bkL_w8).trans (bkF_w8 o)
  have bkL_v3 : w.heap.size < v3.heap.size := Nat.lt_of_lt_of_le bkL_w8 zb3'.size
  have at0_v3 := (zb3'.cell atL_w8).trans at0_w8
  have at1_v3 := (zb3'.cell atL_w8).trans at1_w8
  have at2_v3 := (zb3'.cell atL_w8).trans at2_w8
  have atF_v3 : ∀ o, v3.frozen? ⟨w.heap.size + 1, o, none⟩ = false := fun o => (zb3'.frozen atL_w8).trans (atF_w8 o)
  have atL_v3 : w.heap.size + 1 < v3.heap.size := Nat.lt_of_lt_of_le atL_w8 zb3'.size
  have rs0_v3 := (zb3'.cell rsL_w8).trans rs0_w8
  have rs1_v3 := (zb3'.cell rsL_w8).trans rs1_w8
  have rs2_v3 := (zb3'.cell rsL_w8).trans rs2_w8
  have rsF_v3 : ∀ o, v3.frozen? ⟨w.heap.size + 1 + 1, o, none⟩ = false := fun o => (zb3'.frozen rsL_w8).trans (rsF_w8 o)
  have rsL_v3 : w.heap.size + 1 + 1 < v3.heap.size := Nat.lt_of_lt_of_le rsL_w8 zb3'.size
  have ou0_v3 := (zb3'.cell ouL_w8).trans ou0_w8
  have ou1_v3 := (zb3'.cell ouL_w8).trans ou1_w8
  have ou2_v3 := (zb3'.cell ouL_w8).trans ou2_w8
  have ouF_v3 : ∀ o, v3.frozen? ⟨w4.heap.size, o, none⟩ = false := fun o => (zb3'.frozen ouL_w8).trans (ouF_w8 o)
  have ouL_v3 : w4.heap.size < v3.heap.size := Nat.lt_of_lt_of_le ouL_w8 zb3'.size
  have oL_v3 := hidP (OwnG.later oL_w8.out zb3')
  have acc_v3 := hidP (acc_w8.out.trans (zb3'.mono acc_w8.out.size))
  have sz_v3 : Hid (w8.heap.size ≤ v3.heap.size) := hidP zb3'.size
  clear zb3' bk0_w8 bk1_w8 bk2_w8 bkF_w8 bkL_w8 at0_w8 at1_w8 at2_w8 atF_w8 atL_w8 rs0_w8 rs1_w8 rs2_w8 rsF_w8 rsL_w8 ou0_w8 ou1_w8 ou2_w8 ouF_w8 ouL_w8 oL_w8 acc_w8
  have oP_v3 := hidP (HO3.out)
  have lhP : Hid (∀ k, (Value.slice a5 I c5).ownBlock = some k → w8.heap.size ≤ k ∧ k < v3.heap.size) := hidP (fun k hk => OwnG.lt oP_v3.out k hk)
  clear HO3 oL_v3
  have ou0_V9 : (v3.setCell ⟨w4.heap.size, 0, none⟩ (.slice a5 I c5)).cell? ⟨w4.heap.size, 0, none⟩ = some (.slice a5 I c5) := by simp [go_sem, ou0_v3]
  have ou1_V9 : (v3.setCell ⟨w4.heap.size, 0, none⟩ (.slice a5 I c5)).cell? ⟨w4.heap.size, 1, none⟩ = some (.int .i64 T) := by simp [go_sem, ou1_v3]
  have ou2_V9 : (v3.setCell ⟨w4.heap.size, 0, none⟩ (.slice a5 I c5)).cell? ⟨w4.heap.size, 2, none⟩ = some (.int .i64 N) := by simp [go_sem, ou2_v3]
  have bk0_V9 : (v3.setCell ⟨w4.heap.size, 0, none⟩ (.slice a5 I c5)).cell? ⟨w.heap.size, 0, none⟩ = some (.slice (some ⟨g, 0, none⟩) (I + 1) (I + 1)) := cell_set1 (bk0_v3) (by have := as_W1.out; have := sz_W1.out; have := as_W2.out; have := sz_W2.out; have := as_W3.out; have := sz_W3.out; have := sz_w4.out; have := as_W5.out; have := sz_W5.out; have := sz_w6.out; have := sz_w7.out; have := sz_w8.out; have := sz_v3.out; omega)
  have bk1_V9 : (v3.setCell ⟨w4.heap.size, 0, none⟩ (.slice a5 I c5)).cell? ⟨w.heap.size, 1, none⟩ = some (.int .i64 T) := cell_set1 (bk1_v3) (by have := as_W1.out; have := sz_W1.out; have := as_W2.out; have := sz_W2.out; have := as_W3.out; have := sz_W3.out; have := sz_w4.out; have := as_W5.out; have := sz_W5.out; have := sz_w6.out; have := sz_w7.out; have := sz_w8.out; have := sz_v3.out; omega)
  have bk2_V9 : (v3.setCell ⟨w4.heap.size, 0, none⟩ (.slice a5 I c5)).cell? ⟨w.heap.size, 2, none⟩ = some (.int .i64 N) := cell_set1 (bk2_v3) (by have := as_W1.out; have := sz_W1.out; have := as_W2.out; have := sz_W2.out; have := as_W3.out; have := sz_W3.out; have := sz_w4.out; have := as_W5.out; have := sz_W5.out; have := sz_w6.out; have := sz_w7.out; have := sz_w8.out; have := sz_v3.out; omega)
  have bkF_V9 : ∀ o, (v3.setCell ⟨w4.heap.size, 0, none⟩ (.slice a5 I c5)).frozen? ⟨w.heap.size, o, none⟩ = false := fun o => frz_set1 ((bkF_v3 o))
  have bkL_V9 : w.heap.size < (v3.setCell ⟨w4.heap.size, 0, none⟩ (.slice a5 I c5)).heap.size := by simpa using bkL_v3
  have at0_V9 : (v3.setCell ⟨w4.heap.size, 0, none⟩ (.slice a5 I c5)).cell? ⟨w.heap.size + 1, 0, none⟩ = some (.bool ad.s) := cell_set1 (at0_v3) (by have := as_W1.out; have := sz_W1.out; have := as_W2.out; have := sz_W2.out; have := as_W3.out; have := sz_W3.out; have := sz_w4.out; have := as_W5.out; have := sz_W5.out; have := sz_w6.out; have := sz_w7.out; have := sz_w8.out; have := sz_v3.out; omega)
  have at1_V9 : (v3.setCell ⟨w4.heap.size, 0, none⟩ (.slice a5 I c5)).cell? ⟨w.heap.size + 1, 1, none⟩ = some (.int .i64 ad.H.toInt) := cell_set1 (at1_v3) (by have := as_W1.out; have := sz_W1.out; have := as_W2.out; have := sz_W2.out; have := as_W3.out; have := sz_W3.out; have := sz_w4.out; have := as_W5.out; have := sz_W5.out; have := sz_w6.out; have := sz_w7.out; have := sz_w8.out; have := sz_v3.out; omega)
  have at2_V9 : (v3.setCell ⟨w4.heap.size, 0, none⟩ (.slice a5 I c5)).cell? ⟨w.heap.size + 1, 2, none⟩ = some (.int .i64 ad.L.toInt) := cell_set1 (at2_v3) (by have := as_W1.out; have := sz_W1.out; have := as_W2.out; have := sz_W2.out; have := as_W3.out; have := sz_W3.out; have := sz_w4.out; have := as_W5.out; have := sz_W5.out; have := sz_w6.out; have := sz_w7.out; have := sz_w8.out; have := sz_v3.out; omega)
  have atF_V9 : ∀ o, (v3.setCell ⟨w4.heap.size, 0, none⟩ (.slice a5 I c5)).frozen? ⟨w.heap.size + 1, o, none⟩ = false := fun o => frz_set1 ((atF_v3 o))
  have atL_V9 : w.heap.size + 1 < (v3.setCell ⟨w4.heap.size, 0, none⟩ (.slice a5 I c5)).heap.size := by simpa using atL_v3
  have rs0_V9 : (v3.setCell ⟨w4.heap.size, 0, none⟩ (.slice a5 I c5)).cell? ⟨w.heap.size + 1 + 1, 0, none⟩ = some (.slice none 0 0) := cell_set1 (rs0_v3) (by have := as_W1.out; have := sz_W1.out; have := as_W2.out; have := sz_W2.out; have := as_W3.out; have := sz_W3.out; have := sz_w4.out; have := as_W5.out; have := sz_W5.out; have := sz_w6.out; have := sz_w7.out; have := sz_w8.out; have := sz_v3.out; omega)
  have rs1_V9 : (v3.setCell ⟨w4.heap.size, 0, none⟩ (.slice a5 I c5)).cell? ⟨w.heap.size + 1 + 1, 1, none⟩ = some (.int .i64 0) := cell_set1 (rs1_v3) (by have := as_W1.out; have := sz_W1.out; have := as_W2.out; have := sz_W2.out; have := as_W3.out; have := sz_W3.out; have := sz_w4.out; have := as_W5.out; have := sz_W5.out; have := sz_w6.out; have := sz_w7.out; have := sz_w8.out; have := sz_v3.out; omega)
  have rs2_V9 : (v3.setCell ⟨w4.heap.size, 0, none⟩ (.slice a5 I c5)).cell? ⟨w.heap.size + 1 + 1, 2, none⟩ = some (.int .i64 0) := cell_set1 (rs2_v3) (by have := as_W1.out; have := sz_W1.out; have := as_W2.out; have := sz_W2.out; have := as_W3.out; have := sz_W3.out; have := sz_w4.out; have := as_W5.out; have := sz_W5.out; have := sz_w6.out; have := sz_w7.out; have := sz_w8.out; have := sz_v3.out; omega)
  have rsF_V9 : ∀ o, (v3.setCell ⟨w4.heap.size, 0, none⟩ (.slice a5 I c5)).frozen? ⟨w.heap.size + 1 + 1, o, none⟩ = false := fun o => frz_set1 ((rsF_v3 o))
  have rsL_V9 : w.heap.size + 1 + 1 < (v3.setCell ⟨w4.heap.size, 0, none⟩ (.slice a5 I c5)).heap.size := by simpa using rsL_v3
  have ouF_V9 : ∀ o, (v3.setCell ⟨w4.heap.size, 0, none⟩ (.slice a5 I c5)).frozen? ⟨w4.heap.size, o, none⟩ = false := fun o => frz_set1 ((ouF_v3 o))
  have ouL_V9 : w4.heap.size < (v3.setCell ⟨w4.heap.size, 0, none⟩ (.slice a5 I c5)).heap.size := by simpa using ouL_v3
  have oP_V9 : Hid (OwnG KLs 35 (v3.setCell ⟨w4.heap.size, 0, none⟩ (.slice a5 I c5)) (w8.heap.size) (.slice a5 I c5) (ls.eraseIdx I)) := hidP (OwnG.grown (oP_v3.out) (grown_cellG _ _ _ _) (OwnG.ne_of oP_v3.out (by have := as_W1.out; have := sz_W1.out; have := as_W2.out; have := sz_W2.out; have := as_W3.out; have := sz_W3.out; have := sz_w4.out; have := as_W5.out; have := sz_W5.out; have := sz_w6.out; have := sz_w7.out; have := sz_w8.out; have := sz_v3.out; omega)))
  have acc_V9 : Hid (Below w.heap.size w (v3.setCell ⟨w4.heap.size, 0, none⟩ (.slice a5 I c5))) := hidP (Below.setCell (acc_v3.out) (by have := as_W1.out; have := sz_W1.out; have := as_W2.out; have := sz_W2.out; have := as_W3.out; have := sz_W3.out; have := sz_w4.out; have := as_W5.out; have := sz_W5.out; have := sz_w6.out; have := sz_w7.out; have := sz_w8.out; have := sz_v3.out; try dsimp only; omega) _)
  have sz_V9 : Hid ((v3.setCell ⟨w4.heap.size, 0, none⟩ (.slice a5 I c5)).heap.size = v3.heap.size) := hidP (by simp)
  generalize v3.setCell ⟨w4.heap.size, 0, none⟩ (.slice a5 I c5) = V9 at *
  clear ou0_v3 ou1_v3 ou2_v3 bk0_v3 bk1_v3 bk2_v3 bkF_v3 bkL_v3 at0_v3 at1_v3 at2_v3 atF_v3 atL_v3 rs0_v3 rs1_v3 rs2_v3 rsF_v3 rsL_v3 ouF_v3 ouL_v3 oP_v3 acc_v3
  go_wp2_with fail
  refine bodyPost_ret (v := .tuple #[.agg #[.slice a5 I c5, .int .i64 T, .int .i64 N], .int .i64 0]) (by simp [results, Tryz.results58, go_sem, rs0_V9, rs1_V9, rs2_V9]) rfl ⟨_, _, rfl, ?_, ?_⟩
  · refine OwnG.mono (B := w8.heap.size) ?_ (by have := as_W1.out; have := sz_W1.out; have := as_W2.out; have := sz_W2.out; have := as_W3.out; have := sz_W3.out; have := sz_w4.out; have := as_W5.out; have := sz_W5.out; have := sz_w6.out; have := sz_w7.out; have := sz_w8.out; have := sz_v3.out; have := sz_V9.out; omega)
    iterate 3 (with_reducible refine OwnG.grown ?_ (grown_cellG _ _ _ _) ?_; rotate_left; (focus (exact OwnG.ne_of oP_V9.out (by have := as_W1.out; have := sz_W1.out; have := as_W2.out; have := sz_W2.out; have := as_W3.out; have := sz_W3.out; have := sz_w4.out; have := as_W5.out; have := sz_W5.out; have := sz_w6.out; have := sz_w7.out; have := sz_w8.out; have := sz_v3.out; have := sz_V9.out; omega))))
    exact oP_V9.out
  · repeat (with_reducible refine Below.setCell ?_ ?_ _; rotate_left; (focus (first | (simp; done) | (simp; omega))))
    exact acc_V9.out

set_option maxRecDepth 10000 in
set_option maxHeartbeats 4000000 in
theorem sRel_yes1 (g n cc : Nat) (T N : Int) (ls : List Ls) (ad : Ad) (tk : Int) (w : World) (hn : n = ls.length) (hB : RowG KLs w (some ⟨g, 0, none⟩) ls) (hl : n ≤ 1048576) (hst : ∀ q ∈ ls, q.t.size ≤ 9223372036854775807) (hr : (bkB ls T N && ad.ok) = true) (I : Nat) (hI : I < n) (hcc : n ≤ cc) (hc9 : cc ≤ 9223372036854775807) (hcj : ¬ cc = I + 1) (HL : ∀ W, Below w.heap.size w W → Calls Tryz.prog 73 #[.agg #[.slice (some ⟨g, 0, none⟩) n cc, .int .i64 T, .int .i64 N], .agg #[.bool ad.s, .int .i64 ad.H.toInt, .int .i64 ad.L.toInt], .int .i64 tk] W fun e w' => e = .returned (.tuple #[.int .i64 I, .int .i64 0]) ∧ Below W.heap.size W w') :
    Calls Tryz.prog 58 #[.agg #[.slice (some ⟨g, 0, none⟩) n cc, .int .i64 T, .int .i64 N], .agg #[.bool ad.s, .int .i64 ad.H.toInt, .int .i64 ad.L.toInt], .int .i64 tk] w fun e w' => ∃ a' c', e = .returned (.tuple #[.agg #[.slice a' (n - 1) c', .int .i64 T, .int .i64 N], .int .i64 0]) ∧ OwnG KLs 35 w' w.heap.size (.slice a' (n - 1) c') (ls.eraseIdx I) ∧ Below w.heap.size w w' := by
  have HOw := hidP (fun W h => l6Copy_any (some ⟨g, 0, none⟩) n cc T N ls W hn (hB.later h) (fun h => by cases h) hl)
  have HSp := hidP (fun W h => sBookOk_any (some ⟨g, 0, none⟩) n cc T N ls W hn (hB.later h) hl hst)
  have HAd := hidP (sAddrOk_any ad.s ad.H.toInt ad.L.toInt)
  have HN := hidP hn
  have HR := hidP (fun W h => hB.later (w' := W) h)
  rw [Bool.and_eq_true] at hr
  have hok' : okB ad.s ad.H.toInt ad.L.toInt = true := hr.2
  rw [hr.1] at HSp
  rw [hok'] at HAd
  clear hB hn hst hr hok'
  have HLd := hidP HL
  have hl1 : (ls.take I).length = I := by rw [List.length_take]; have := HN.out; omega
  have hl2 : (ls.drop (I + 1)).length = n - (I + 1) := by rw [List.length_drop, HN.out]
  have HLn := hidP (And.intro hl1 hl2)
  have hi0 : (0 : Int) ≤ (I : Int) := by omega
  have hi1 : (I : Int) ≤ (n : Int) := by omega
  have hi2 : (I : Int) + 1 ≤ (n : Int) := by omega
  have hi4 : (I : Int) ≤ (cc : Int) := by omega
  have hi5 : (n : Int) ≤ (cc : Int) := by omega
  have hi6 : cc ≠ I + 1 := hcj
  have hi3 : (0 : Int) ≤ (I : Int) + 1 := by omega
  have wi : IntKind.i64.wrap ((I : Int) + 1) = (I : Int) + 1 := by rw [IntKind.wrap_i64]; omega
  have HRW := hidP (HR.out)
  clear HL hl1 hl2
  go_enter Tryz.func58, Tryz.ntmps58
  go_wp2_with fail
  obtain ⟨bk0_W1, bk1_W1, bk2_W1⟩ := box3B w 26 (.slice (some ⟨g, 0, none⟩) n cc) (.int .i64 T) (.int .i64 N)
  have bkF_W1 : ∀ o, (w.alloc (.cells #[.slice (some ⟨g, 0, none⟩) n cc, .int .i64 T, .int .i64 N] 26)).frozen? ⟨w.heap.size, o, none⟩ = false := fun o => by simp [go_sem]
  have bkL_W1 : w.heap.size < (w.alloc (.cells #[.slice (some ⟨g, 0, none⟩) n cc, .int .i64 T, .int .i64 N] 26)).heap.size := by simp
  have ab_W1 := alloc_below w (.cells #[.slice (some ⟨g, 0, none⟩) n cc, .int .i64 T, .int .i64 N] 26)
  have as_W1 : Hid ((w.alloc (.cells #[.slice (some ⟨g, 0, none⟩) n cc, .int .i64 T, .int .i64 N] 26)).heap.size = w.heap.size + 1) := hidP (by simp)
  generalize w.alloc (.cells #[.slice (some ⟨g, 0, none⟩) n cc, .int .i64 T, .int .i64 N] 26) = W1 at *
  have acc_W1 := hidP (ab_W1)
  have sz_W1 : Hid (w.heap.size ≤ W1.heap.size) := hidP ab_W1.size
  clear ab_W1 
  obtain ⟨at0_W2, at1_W2, at2_W2⟩ := box3B W1 28 (.bool ad.s) (.int .i64 ad.H.toInt) (.int .i64 ad.L.toInt)
  have atF_W2 : ∀ o, (W1.alloc (.cells #[.bool ad.s, .int .i64 ad.H.toInt, .int .i64 ad.L.toInt] 28)).frozen? ⟨W1.heap.size, o, none⟩ = false := fun o => by simp [go_sem]
  have atL_W2 : W1.heap.size < (W1.alloc (.cells #[.bool ad.s, .int .i64 ad.H.toInt, .int .i64 ad.L.toInt] 28)).heap.size := by simp
  have ab_W2 := alloc_below W1 (.cells #[.bool ad.s, .int .i64 ad.H.toInt, .int .i64 ad.L.toInt] 28)
  have as_W2 : Hid ((W1.alloc (.cells #[.bool ad.s, .int .i64 ad.H.toInt, .int .i64 ad.L.toInt] 28)).heap.size = W1.heap.size + 1) := hidP (by simp)
  generalize W1.alloc (.cells #[.bool ad.s, .int .i64 ad.H.toInt, .int .i64 ad.L.toInt] 28) = W2 at *
  have bk0_W2 := (ab_W2.cell bkL_W1).trans bk0_W1
  have bk1_W2 := (ab_W2.cell bkL_W1).trans bk1_W1
  have bk2_W2 := (ab_W2.cell bkL_W1).trans bk2_W1
  have bkF_W2 : ∀ o, W2.frozen? ⟨w.heap.size, o, none⟩ = false := fun o => (ab_W2.frozen bkL_W1).trans (bkF_W1 o)
  have bkL_W2 : w.heap.size < W2.heap.size := Nat.lt_of_lt_of_le bkL_W1 ab_W2.size
  have acc_W2 := hidP (acc_W1.out.trans (ab_W2.mono acc_W1.out.size))
  have sz_W2 : Hid (W1.heap.size ≤ W2.heap.size) := hidP ab_W2.size
  clear ab_W2 bk0_W1 bk1_W1 bk2_W1 bkF_W1 bkL_W1 acc_W1
  rw [as_W1.out] at at0_W2 at1_W2 at2_W2 atL_W2
  have atF_W2' : ∀ o, W2.frozen? ⟨w.heap.size + 1, o, none⟩ = false := fun o => by have := atF_W2 o; rw [as_W1.out] at this; exact this
  clear atF_W2
  have atF_W2 := atF_W2'
  clear atF_W2'
  obtain ⟨rs0_W3, rs1_W3, rs2_W3⟩ := box3B W2 26 (.slice none 0 0) (.int .i64 0) (.int .i64 0)
  have rsF_W3 : ∀ o, (W2.alloc (.cells #[.slice none 0 0, .int .i64 0, .int .i64 0] 26)).frozen? ⟨W2.heap.size, o, none⟩ = false := fun o => by simp [go_sem]
  have rsL_W3 : W2.heap.size < (W2.alloc (.cells #[.slice none 0 0, .int .i64 0, .int .i64 0] 26)).heap.size := by simp
  have ab_W3 := alloc_below W2 (.cells #[.slice none 0 0, .int .i64 0, .int .i64 0] 26)
  have as_W3 : Hid ((W2.alloc (.cells #[.slice none 0 0, .int .i64 0, .int .i64 0] 26)).heap.size = W2.heap.size + 1) := hidP (by simp)
  generalize W2.alloc (.cells #[.slice none 0 0, .int .i64 0, .int .i64 0] 26) = W3 at *
  have bk0_W3 := (ab_W3.cell bkL_W2).trans bk0_W2
  have bk1_W3 := (ab_W3.cell bkL_W2).trans bk1_W2
  have bk2_W3 := (ab_W3.cell bkL_W2).trans bk2_W2
  have bkF_W3 : ∀ o, W3.frozen? ⟨w.heap.size, o, none⟩ = false := fun o => (ab_W3.frozen bkL_W2).trans (bkF_W2 o)
  have bkL_W3 : w.heap.size < W3.heap.size := Nat.lt_of_lt_of_le bkL_W2 ab_W3.size
  have at0_W3 := (ab_W3.cell atL_W2).trans at0_W2
  have at1_W3 := (ab_W3.cell atL_W2).trans at1_W2
  have at2_W3 := (ab_W3.cell atL_W2).trans at2_W2
  have atF_W3 : ∀ o, W3.frozen? ⟨w.heap.size + 1, o, none⟩ = false := fun o => (ab_W3.frozen atL_W2).trans (atF_W2 o)
  have atL_W3 : w.heap.size + 1 < W3.heap.size := Nat.lt_of_lt_of_le atL_W2 ab_W3.size
  have acc_W3 := hidP (acc_W2.out.trans (ab_W3.mono acc_W2.out.size))
  have sz_W3 : Hid (W2.heap.size ≤ W3.heap.size) := hidP ab_W3.size
  clear ab_W3 bk0_W2 bk1_W2 bk2_W2 bkF_W2 bkL_W2 at0_W2 at1_W2 at2_W2 atF_W2 atL_W2 acc_W2
  rw [as_W2.out, as_W1.out] at rs0_W3 rs1_W3 rs2_W3 rsL_W3
  have rsF_W3' : ∀ o, W3.frozen? ⟨w.heap.size + 1 + 1, o, none⟩ = false := fun o => by have := rsF_W3 o; rw [as_W2.out, as_W1.out] at this; exact this
  clear rsF_W3
  have rsF_W3 := rsF_W3'
  clear rsF_W3'
  refine (HOw.out _ acc_W3.out).mono ?_
  rintro e w4 ⟨a3, c3, rfl, og3, hb4⟩
  have og3' := hidP og3
  clear og3
  have bk0_w4 := (hb4.cell bkL_W3).trans bk0_W3
  have bk1_w4 := (hb4.cell bkL_W3).trans bk1_W3
  have bk2_w4 := (hb4.cell bkL_W3).trans bk2_W3
  have bkF_w4 : ∀ o, w4.frozen? ⟨w.heap.size, o, none⟩ = false := fun o => (hb4.frozen bkL_W3).trans (bkF_W3 o)
  have bkL_w4 : w.heap.size < w4.heap.size := Nat.lt_of_lt_of_le bkL_W3 hb4.size
  have at0_w4 := (hb4.cell atL_W3).trans at0_W3
  have at1_w4 := (hb4.cell atL_W3).trans at1_W3
  have at2_w4 := (hb4.cell atL_W3).trans at2_W3
  have atF_w4 : ∀ o, w4.frozen? ⟨w.heap.size + 1, o, none⟩ = false := fun o => (hb4.frozen atL_W3).trans (atF_W3 o)
  have atL_w4 : w.heap.size + 1 < w4.heap.size := Nat.lt_of_lt_of_le atL_W3 hb4.size
  have rs0_w4 := (hb4.cell rsL_W3).trans rs0_W3
  have rs1_w4 := (hb4.cell rsL_W3).trans rs1_W3
  have rs2_w4 := (hb4.cell rsL_W3).trans rs2_W3
  have rsF_w4 : ∀ o, w4.frozen? ⟨w.heap.size + 1 + 1, o, none⟩ = false := fun o => (hb4.frozen rsL_W3).trans (rsF_W3 o)
  have rsL_w4 : w.heap.size + 1 + 1 < w4.heap.size := Nat.lt_of_lt_of_le rsL_W3 hb4.size
  have acc_w4 := hidP (acc_W3.out.trans (hb4.mono acc_W3.out.size))
  have sz_w4 : Hid (W3.heap.size ≤ w4.heap.size) := hidP hb4.size
  clear hb4 bk0_W3 bk1_W3 bk2_W3 bkF_W3 bkL_W3 at0_W3 at1_W3 at2_W3 atF_W3 atL_W3 rs0_W3 rs1_W3 rs2_W3 rsF_W3 rsL_W3 acc_W3
  have oL_w4 := hidP (og3'.out)
  have lhL : Hid (∀ k, (Value.slice a3 n c3).ownBlock = some k → W3.heap.size ≤ k ∧ k < w4.heap.size) := hidP (fun k hk => OwnG.lt oL_w4.out k hk)
  clear og3'
  go_wp2_with fail
  obtain ⟨ou0_W5, ou1_W5, ou2_W5⟩ := box3B w4 26 (.slice a3 n c3) (.int .i64 T) (.int .i64 N)
  have ouF_W5 : ∀ o, (w4.alloc (.cells #[.slice a3 n c3, .int .i64 T, .int .i64 N] 26)).frozen? ⟨w4.heap.size, o, none⟩ = false := fun o => by simp [go_sem]
  have ouL_W5 : w4.heap.size < (w4.alloc (.cells #[.slice a3 n c3, .int .i64 T, .int .i64 N] 26)).heap.size := by simp
  have ab_W5 := alloc_below w4 (.cells #[.slice a3 n c3, .int .i64 T, .int .i64 N] 26)
  have as_W5 : Hid ((w4.alloc (.cells #[.slice a3 n c3, .int .i64 T, .int .i64 N] 26)).heap.size = w4.heap.size + 1) := hidP (by simp)
  generalize w4.alloc (.cells #[.slice a3 n c3, .int .i64 T, .int .i64 N] 26) = W5 at *
  have bk0_W5 := (ab_W5.cell bkL_w4).trans bk0_w4
  have bk1_W5 := (ab_W5.cell bkL_w4).trans bk1_w4
  have bk2_W5 := (ab_W5.cell bkL_w4).trans bk2_w4
  have bkF_W5 : ∀ o, W5.frozen? ⟨w.heap.size, o, none⟩ = false := fun o => (ab_W5.frozen bkL_w4).trans (bkF_w4 o)
  have bkL_W5 : w.heap.size < W5.heap.size := Nat.lt_of_lt_of_le bkL_w4 ab_W5.size
  have at0_W5 := (ab_W5.cell atL_w4).trans at0_w4
  have at1_W5 := (ab_W5.cell atL_w4).trans at1_w4
  have at2_W5 := (ab_W5.cell atL_w4).trans at2_w4
  have atF_W5 : ∀ o, W5.frozen? ⟨w.heap.size + 1, o, none⟩ = false := fun o => (ab_W5.frozen atL_w4).trans (atF_w4 o)
  have atL_W5 : w.heap.size + 1 < W5.heap.size := Nat.lt_of_lt_of_le atL_w4 ab_W5.size
  have rs0_W5 := (ab_W5.cell rsL_w4).trans rs0_w4
  have rs1_W5 := (ab_W5.cell rsL_w4).trans rs1_w4
  have rs2_W5 := (ab_W5.cell rsL_w4).trans rs2_w4
  have rsF_W5 : ∀ o, W5.frozen? ⟨w.heap.size + 1 + 1, o, none⟩ = false := fun o => (ab_W5.frozen rsL_w4).trans (rsF_w4 o)
  have rsL_W5 : w.heap.size + 1 + 1 < W5.heap.size := Nat.lt_of_lt_of_le rsL_w4 ab_W5.size
  have oL_W5 := hidP (OwnG.later oL_w4.out ab_W5)
  have acc_W5 := hidP (acc_w4.out.trans (ab_W5.mono acc_w4.out.size))
  have sz_W5 : Hid (w4.heap.size ≤ W5.heap.size) := hidP ab_W5.size
  clear ab_W5 bk0_w4 bk1_w4 bk2_w4 bkF_w4 bkL_w4 at0_w4 at1_w4 at2_w4 atF_w4 atL_w4 rs0_w4 rs1_w4 rs2_w4 rsF_w4 rsL_w4 oL_w4 acc_w4
  refine (HSp.out _ acc_W5.out).mono ?_
  rintro e w6 ⟨rfl, hb6⟩
  have bk0_w6 := (hb6.cell bkL_W5).trans bk0_W5
  have bk1_w6 := (hb6.cell bkL_W5).trans bk1_W5
  have bk2_w6 := (hb6.cell bkL_W5).trans bk2_W5
  have bkF_w6 : ∀ o, w6.frozen? ⟨w.heap.size, o, none⟩ = false := fun o => (hb6.frozen bkL_W5).trans (bkF_W5 o)
  have bkL_w6 : w.heap.size < w6.heap.size := Nat.lt_of_lt_of_le bkL_W5 hb6.size
  have at0_w6 := (hb6.cell atL_W5).trans at0_W5
  have at1_w6 := (hb6.cell atL_W5).trans at1_W5
  have at2_w6 := (hb6.cell atL_W5).trans at2_W5
  have atF_w6 : ∀ o, w6.frozen? ⟨w.heap.size + 1, o, none⟩ = false := fun o => (hb6.frozen atL_W5).trans (atF_W5 o)
  have atL_w6 : w.heap.size + 1 < w6.heap.size := Nat.lt_of_lt_of_le atL_W5 hb6.size
  have rs0_w6 := (hb6.cell rsL_W5).trans rs0_W5
  have rs1_w6 := (hb6.cell rsL_W5).trans rs1_W5
  have rs2_w6 := (hb6.cell rsL_W5).trans rs2_W5
  have rsF_w6 : ∀ o, w6.frozen? ⟨w.heap.size + 1 + 1, o, none⟩ = false := fun o => (hb6.frozen rsL_W5).trans (rsF_W5 o)
  have rsL_w6 : w.heap.size + 1 + 1 < w6.heap.size := Nat.lt_of_lt_of_le rsL_W5 hb6.size
  have ou0_w6 := (hb6.cell ouL_W5).trans ou0_W5
  have ou1_w6 := (hb6.cell ouL_W5).trans ou1_W5
  have ou2_w6 := (hb6.cell ouL_W5).trans ou2_W5
  have ouF_w6 : ∀ o, w6.frozen? ⟨w4.heap.size, o, none⟩ = false := fun o => (hb6.frozen ouL_W5).trans (ouF_W5 o)
  have ouL_w6 : w4.heap.size < w6.heap.size := Nat.lt_of_lt_of_le ouL_W5 hb6.size
  have oL_w6 := hidP (OwnG.later oL_W5.out hb6)
  have acc_w6 := hidP (acc_W5.out.trans (hb6.mono acc_W5.out.size))
  have sz_w6 : Hid (W5.heap.size ≤ w6.heap.size) := hidP hb6.size
  clear hb6 bk0_W5 bk1_W5 bk2_W5 bkF_W5 bkL_W5 at0_W5 at1_W5 at2_W5 atF_W5 atL_W5 rs0_W5 rs1_W5 rs2_W5 rsF_W5 rsL_W5 ou0_W5 ou1_W5 ou2_W5 ouF_W5 ouL_W5 oL_W5 acc_W5
  go_wp2_with fail
  refine (HAd.out _).mono ?_
  rintro e w7 ⟨rfl, hb7⟩
  have bk0_w7 := (hb7.cell bkL_w6).trans bk0_w6
  have bk1_w7 := (hb7.cell bkL_w6).trans bk1_w6
  have bk2_w7 := (hb7.cell bkL_w6).trans bk2_w6
  have bkF_w7 : ∀ o, w7.frozen? ⟨w.heap.size, o, none⟩ = false := fun o => (hb7.frozen bkL_w6).trans (bkF_w6 o)
  have bkL_w7 : w.heap.size < w7.heap.size := Nat.lt_of_lt_of_le bkL_w6 hb7.size
  have at0_w7 := (hb7.cell atL_w6).trans at0_w6
  have at1_w7 := (hb7.cell atL_w6).trans at1_w6
  have at2_w7 := (hb7.cell atL_w6).trans at2_w6
  have atF_w7 : ∀ o, w7.frozen? ⟨w.heap.size + 1, o, none⟩ = false := fun o => (hb7.frozen atL_w6).trans (atF_w6 o)
  have atL_w7 : w.heap.size + 1 < w7.heap.size := Nat.lt_of_lt_of_le atL_w6 hb7.size
  have rs0_w7 := (hb7.cell rsL_w6).trans rs0_w6
  have rs1_w7 := (hb7.cell rsL_w6).trans rs1_w6
  have rs2_w7 := (hb7.cell rsL_w6).trans rs2_w6
  have rsF_w7 : ∀ o, w7.frozen? ⟨w.heap.size + 1 + 1, o, none⟩ = false := fun o => (hb7.frozen rsL_w6).trans (rsF_w6 o)
  have rsL_w7 : w.heap.size + 1 + 1 < w7.heap.size := Nat.lt_of_lt_of_le rsL_w6 hb7.size
  have ou0_w7 := (hb7.cell ouL_w6).trans ou0_w6
  have ou1_w7 := (hb7.cell ouL_w6).trans ou1_w6
  have ou2_w7 := (hb7.cell ouL_w6).trans ou2_w6
  have ouF_w7 : ∀ o, w7.frozen? ⟨w4.heap.size, o, none⟩ = false := fun o => (hb7.frozen ouL_w6).trans (ouF_w6 o)
  have ouL_w7 : w4.heap.size < w7.heap.size := Nat.lt_of_lt_of_le ouL_w6 hb7.size
  have oL_w7 := hidP (OwnG.later oL_w6.out hb7)
  have acc_w7 := hidP (acc_w6.out.trans (hb7.mono acc_w6.out.size))
  have sz_w7 : Hid (w6.heap.size ≤ w7.heap.size) := hidP hb7.size
  clear hb7 bk0_w6 bk1_w6 bk2_w6 bkF_w6 bkL_w6 at0_w6 at1_w6 at2_w6 atF_w6 atL_w6 rs0_w6 rs1_w6 rs2_w6 rsF_w6 rsL_w6 ou0_w6 ou1_w6 ou2_w6 ouF_w6 ouL_w6 oL_w6 acc_w6
  go_wp2_with fail
  refine (HLd.out _ acc_w7.out).mono ?_
  rintro e w8 ⟨rfl, hb8⟩
  have bk0_w8 := (hb8.cell bkL_w7).trans bk0_w7
  have bk1_w8 := (hb8.cell bkL_w7).trans bk1_w7
  have bk2_w8 := (hb8.cell bkL_w7).trans bk2_w7
  have bkF_w8 : ∀ o, w8.frozen? ⟨w.heap.size, o, none⟩ = false := fun o => (hb8.frozen bkL_w7).trans (bkF_w7 o)
  have bkL_w8 : w.heap.size < w8.heap.size := Nat.lt_of_lt_of_le bkL_w7 hb8.size
  have at0_w8 := (hb8.cell atL_w7).trans at0_w7
  have at1_w8 := (hb8.cell atL_w7).trans at1_w7
  have at2_w8 := (hb8.cell atL_w7).trans at2_w7
  have atF_w8 : ∀ o, w8.frozen? ⟨w.heap.size + 1, o, none⟩ = false := fun o => (hb8.frozen atL_w7).trans (atF_w7 o)
  have atL_w8 : w.heap.size + 1 < w8.heap.size := Nat.lt_of_lt_of_le atL_w7 hb8.size
  have rs0_w8 := (hb8.cell rsL_w7).trans rs0_w7
  have rs1_w8 := (hb8.cell rsL_w7).trans rs1_w7
  have rs2_w8 := (hb8.cell rsL_w7).trans rs2_w7
  have rsF_w8 : ∀ o, w8.frozen? ⟨w.heap.size + 1 + 1, o, none⟩ = false := fun o => (hb8.frozen rsL_w7).trans (rsF_w7 o)
  have rsL_w8 : w.heap.size + 1 + 1 < w8.heap.size := Nat.lt_of_lt_of_le rsL_w7 hb8.size
  have ou0_w8 := (hb8.cell ouL_w7).trans ou0_w7
  have ou1_w8 := (hb8.cell ouL_w7).trans ou1_w7
  have ou2_w8 := (hb8.cell ouL_w7).trans ou2_w7
  have ouF_w8 : ∀ o, w8.frozen? ⟨w4.heap.size, o, none⟩ = false := fun o => (hb8.frozen ouL_w7).trans (ouF_w7 o)
  have ouL_w8 : w4.heap.size < w8.heap.size := Nat.lt_of_lt_of_le ouL_w7 hb8.size
  have oL_w8 := hidP (OwnG.later oL_w7.out hb8)
  have acc_w8 := hidP (acc_w7.out.trans (hb8.mono acc_w7.out.size))
  have sz_w8 : Hid (w7.heap.size ≤ w8.heap.size) := hidP hb8.size
  clear hb8 bk0_w7 bk1_w7 bk2_w7 bkF_w7 bkL_w7 at0_w7 at1_w7 at2_w7 atF_w7 atL_w7 rs0_w7 rs1_w7 rs2_w7 rsF_w7 rsL_w7 ou0_w7 ou1_w7 ou2_w7 ouF_w7 ouL_w7 oL_w7 acc_w7
  go_wp2_with fail
  have hBW : w4.heap.size ≤ w8.heap.size := (by have := as_W1.out; have := sz_W1.out; have := as_W2.out; have := sz_W2.out; have := as_W3.out; have := sz_W3.out; have := sz_w4.out; have := as_W5.out; have := sz_W5.out; have := sz_w6.out; have := sz_w7.out; have := sz_w8.out; omega)
  have l0 : w.heap.size < w4.heap.size := (by have := as_W1.out; have := sz_W1.out; have := as_W2.out; have := sz_W2.out; have := as_W3.out; have := sz_W3.out; have := sz_w4.out; have := as_W5.out; have := sz_W5.out; have := sz_w6.out; have := sz_w7.out; have := sz_w8.out; omega)
  have HSx : Hid (∀ x, Below w4.heap.size w8 x → (x.cell? ⟨w.heap.size, 0, none⟩ = some (.slice (some ⟨g, 0, none⟩) n cc) ∧ Below w4.heap.size w8 x)) := hidP fun x h =>
    ⟨(h.cell l0).trans bk0_w8, h⟩
  refine wp_region_held_drew (S := (fun x => x.cell? ⟨w.heap.size, 0, none⟩ = some (.slice (some ⟨g, 0, none⟩) n cc) ∧ Below w4.heap.size w8 x)) (by kernel_rfl) ?_ (fun hHeld => ?_)
  · try dsimp only
    exact HSx.out _ (Below.refl _ _).drew
  refine tkA 1 32 (v := ?_) rfl (by kernel_rfl) (fun _ _ _ h => h) (by rfl) ?_ (by assumption) ?_; rotate_left; · (intro w hSw; (try dsimp only at hSw); go_simp; try with_reducible rfl)
  simp only [Act.put, List.setIfInBounds_toArray, List.set_cons_zero, List.set_cons_succ]
  refine tkA 2 33 (v := ?_) rfl (by kernel_rfl) (fun _ _ _ h => h) (by rfl) ?_ (by assumption) ?_; rotate_left; · (intro w hSw; (try dsimp only at hSw); go_simp; try with_reducible rfl)
  simp only [Act.put, List.setIfInBounds_toArray, List.set_cons_zero, List.set_cons_succ]
  refine tkA 3 34 (v := ?_) rfl (by kernel_rfl) (fun _ _ _ h => h) (by rfl) ?_ (by assumption) ?_; rotate_left; · (intro w hSw; (try dsimp only at hSw); go_simp; try with_reducible rfl)
  simp only [Act.put, List.setIfInBounds_toArray, List.set_cons_zero, List.set_cons_succ]
  refine tkA 4 35 (v := ?_) rfl (by kernel_rfl) (fun _ _ _ h => h) (by rfl) ?_ (by assumption) ?_; rotate_left; · (intro w hSw; (try dsimp only at hSw); go_simp; try with_reducible rfl)
  simp only [Act.put, List.setIfInBounds_toArray, List.set_cons_zero, List.set_cons_succ]
  refine tkA 6 37 (v := ?_) rfl (by kernel_rfl) (fun _ _ _ h => h) (by rfl) ?_ (by assumption) ?_; rotate_left; · (intro w hSw; (try dsimp only at hSw); go_simp; try with_reducible rfl)
  simp only [Act.put, List.setIfInBounds_toArray, List.set_cons_zero, List.set_cons_succ]
  refine tkA 7 38 (v := ?_) rfl (by kernel_rfl) (fun _ _ _ h => h) (by rfl) ?_ (by assumption) ?_; rotate_left; · (intro w hSw; (try dsimp only at hSw); go_simp; try with_reducible rfl)
  simp only [Act.put, List.setIfInBounds_toArray, List.set_cons_zero, List.set_cons_succ]
  refine tkA 8 39 (v := ?_) rfl (by kernel_rfl) (fun _ _ _ h => h) (by rfl) ?_ (by assumption) ?_; rotate_left; · (intro w hSw; (try dsimp only at hSw); go_simp; try with_reducible rfl)
  simp only [Act.put, List.setIfInBounds_toArray, List.set_cons_zero, List.set_cons_succ]
  refine tkA 9 40 (v := ?_) rfl (by kernel_rfl) (fun _ _ _ h => h) (by rfl) ?_ (by assumption) ?_; rotate_left; · (intro w hSw; (try dsimp only at hSw); go_simp; try with_reducible rfl)
  simp only [Act.put, List.setIfInBounds_toArray, List.set_cons_zero, List.set_cons_succ]
  refine tkA 10 41 (v := ?_) rfl (by kernel_rfl) (fun _ _ _ h => h) (by rfl) ?_ (by assumption) ?_; rotate_left; · (intro w hSw; (try dsimp only at hSw); go_simp; try with_reducible rfl)
  simp only [Act.put, List.setIfInBounds_toArray, List.set_cons_zero, List.set_cons_succ]
  refine wpAnyH_ready (rs := [0]) (by kernel_rfl) (by simp) ?_
  refine AllReadyH.cons rfl (fun K hK => ?_) AllReadyH.nil
  go_simp
  have z1 := OwnG.drewG (own_zeroG KLs w8 w8.heap.size 35 (Nat.le_refl _))
  have zb1 := (alloc_below w8 (.cells #[] 35)).drew
  have zs1 : w8.heap.size + 1 ≤ (w8.alloc (.cells #[] 35)).drew.heap.size := by show w8.heap.size + 1 ≤ (w8.alloc (.cells #[] 35)).heap.size; simp
  generalize (w8.alloc (.cells #[] 35)).drew = v1 at *
  refine hK.out _ _ ?_ (fun hHeld => ?_)
  · try dsimp only
    exact HSx.out _ (zb1.mono hBW)
  clear hK K
  refine wpAnyH_ready (rs := [5]) (by kernel_rfl) (by simp) ?_
  refine AllReadyH.cons rfl (fun K hK => ?_) AllReadyH.nil
  have rw1 : Below w.heap.size w v1 := acc_w8.out.trans (zb1.mono acc_w8.out.size)
  refine step_appG Tryz.tyLs _ rfl (.tmp 31) (.tmp 35) 24 rfl w8.heap.size (some ⟨w8.heap.size, 0, none⟩) 0 0 I [] (ls.take I) (.slice (some ⟨g, 0, none⟩) I cc) rfl rfl HLn.out.1.symm z1 rfl (src_rowG Tryz.tyLs.1 I cc (by show 0 < 6; omega) HLn.out.1.symm (RowG.takeG (HRW.out _ rw1) I) (fun e => by cases e)) (by omega) (by omega) ?_
  intro a2 c2 v2 ho2 hg2 ht2
  rw [Nat.zero_add, List.nil_append] at ho2
  have zs2 := hg2.size
  have zb2 := Below.grown zb1 hg2 zb1.size (fun j hj => by rw [ob_some, Option.some.injEq] at hj; omega)
  rw [Nat.zero_add]
  refine hK.out _ _ ?_ (fun hHeld => ?_)
  · try dsimp only
    exact HSx.out _ (zb2.mono hBW)
  clear hK K
  refine wpAnyH_ready (rs := [11]) (by kernel_rfl) (by simp) ?_
  refine AllReadyH.cons rfl (fun K hK => ?_) AllReadyH.nil
  have rw2 : Below w.heap.size w v2 := acc_w8.out.trans (zb2.mono acc_w8.out.size)
  refine step_appG Tryz.tyLs _ rfl (.tmp 36) (.tmp 41) 24 rfl w8.heap.size a2 I c2 (n - (I + 1)) (ls.take I) (ls.drop (I + 1)) (.slice (some ⟨g, (I + 1) * 6, none⟩) (n - (I + 1)) (cc - (I + 1))) rfl HLn.out.1.symm HLn.out.2.symm ho2 rfl (src_rowG Tryz.tyLs.1 _ _ (by show 0 < 6; omega) HLn.out.2.symm (RowG.fromG (HRW.out _ rw2) (I + 1)) (fun e => by cases e)) (by omega) (by omega) ?_
  intro a5 c5 v3 ho3 hg3 ht3
  have lo2 := fun j hj => (OwnG.lt ho2 j hj).1
  have zb3 := Below.grown zb2 hg3 zb2.size (fun j hj => by have := lo2 j hj; omega)
  have heM : I + (n - (I + 1)) = n - 1 := by omega
  rw [heM, erase_eq] at ho3
  rw [heM]
  refine hK.out _ _ ?_ (fun hHeld => ?_)
  · try dsimp only
    exact HSx.out _ (zb3.mono hBW)
  clear hK K
  refine tkA 12 43 (v := ?_) rfl (by kernel_rfl) (fun _ _ _ h => h) (by rfl) ?_ (by assumption) ?_; rotate_left; · (intro w hSw; (try dsimp only at hSw); go_simp; try with_reducible rfl)
  simp only [Act.put, List.setIfInBounds_toArray]
  have t0 := (zb3.cell ouL_w8).trans ou0_w8
  have t1 := (zb3.cell ouL_w8).trans ou1_w8
  have t2 := (zb3.cell ouL_w8).trans ou2_w8
  have tF : ∀ o, v3.frozen? ⟨w4.heap.size, o, none⟩ = false := fun o => (zb3.frozen ouL_w8).trans (ouF_w8 o)
  refine wpAnyH_ready (rs := [13]) (by kernel_rfl) (by simp) ?_
  refine AllReadyH.cons rfl (fun K hK => ?_) AllReadyH.nil
  go_simp
  refine hK.out _ _ ?_ (fun hHeld => ?_)
  · try dsimp only
    exact HSx.out _ ((zb3.mono hBW).setCell (Nat.le_refl _) _)
  clear hK K
  have HE := hidP (hHeld.2)
  refine wpAnyH_done (by kernel_rfl) ?_ _
  clear hHeld
  clear HE HSx t0 t1 t2 tF
  have HO3 := hidP ho3
  clear ho3 hg3 ht3 ho2 hg2 ht2 z1 lo2
  have zb3' := zb3
  clear zb3 zb2 zb1
  have bk0_v3 := (zb3'.cell bkL_w8).trans bk0_w8
  have bk1_v3 := (zb3'.cell bkL_w8).trans bk1_w8
  have bk2_v3 := (zb3'.cell bkL_w8).trans bk2_w8
  have bkF_v3 : ∀ o, v3.frozen? ⟨w.heap.size, o, none⟩ = false := fun o => (zb3'.frozen bkL_w8).trans (bkF_w8 o)
  have bkL_v3 : w.heap.size < v3.heap.size := Nat.lt_of_lt_of_le bkL_w8 zb3'.size
  have at0_v3 := (zb3'.cell atL_w8).trans at0_w8
  have at1_v3 := (zb3'.cell atL_w8).trans at1_w8
  have at2_v3 := (zb3'.cell atL_w8).trans at2_w8
  have atF_v3 : ∀ o, v3.frozen? ⟨w.heap.size + 1, o, none⟩ = false := fun o => (zb3'.frozen atL_w8).trans (atF_w8 o)
  have atL_v3 : w.heap.size + 1 < v3.heap.size := Nat.lt_of_lt_of_le atL_w8 zb3'.size
  have rs0_v3 := (zb3'.cell rsL_w8).trans rs0_w8
  have rs1_v3 := (zb3'.cell rsL_w8).trans rs1_w8
  have rs2_v3 := (zb3'.cell rsL_w8).trans rs2_w8
  have rsF_v3 : ∀ o, v3.frozen? ⟨w.heap.size + 1 + 1, o, none⟩ = false := fun o => (zb3'.frozen rsL_w8).trans (rsF_w8 o)
  have rsL_v3 : w.heap.size + 1 + 1 < v3.heap.size := Nat.lt_of_lt_of_le rsL_w8 zb3'.size
  have ou0_v3 := (zb3'.cell ouL_w8).trans ou0_w8
  have ou1_v3 := (zb3'.cell ouL_w8).trans ou1_w8
  have ou2_v3 := (zb3'.cell ouL_w8).trans ou2_w8
  have ouF_v3 : ∀ o, v3.frozen? ⟨w4.heap.size, o, none⟩ = false := fun o => (zb3'.frozen ouL_w8).trans (ouF_w8 o)
  have ouL_v3 : w4.heap.size < v3.heap.size := Nat.lt_of_lt_of_le ouL_w8 zb3'.size
  have oL_v3 := hidP (OwnG.later oL_w8.out zb3')
  have acc_v3 := hidP (acc_w8.out.trans (zb3'.mono acc_w8.out.size))
  have sz_v3 : Hid (w8.heap.size ≤ v3.heap.size) := hidP zb3'.size
  clear zb3' bk0_w8 bk1_w8 bk2_w8 bkF_w8 bkL_w8 at0_w8 at1_w8 at2_w8 atF_w8 atL_w8 rs0_w8 rs1_w8 rs2_w8 rsF_w8 rsL_w8 ou0_w8 ou1_w8 ou2_w8 ouF_w8 ouL_w8 oL_w8 acc_w8
  have oP_v3 := hidP (HO3.out)
  have lhP : Hid (∀ k, (Value.slice a5 (n - 1) c5).ownBlock = some k → w8.heap.size ≤ k ∧ k < v3.heap.size) := hidP (fun k hk => OwnG.lt oP_v3.out k hk)
  clear HO3 oL_v3
  have ou0_V9 : (v3.setCell ⟨w4.heap.size, 0, none⟩ (.slice a5 (n - 1) c5)).cell? ⟨w4.heap.size, 0, none⟩ = some (.slice a5 (n - 1) c5) := by simp [go_sem, ou0_v3]
  have ou1_V9 : (v3.setCell ⟨w4.heap.size, 0, none⟩ (.slice a5 (n - 1) c5)).cell? ⟨w4.heap.size, 1, none⟩ = some (.int .i64 T) := by simp [go_sem, ou1_v3]
  have ou2_V9 : (v3.setCell ⟨w4.heap.size, 0, none⟩ (.slice a5 (n - 1) c5)).cell? ⟨w4.heap.size, 2, none⟩ = some (.int .i64 N) := by simp [go_sem, ou2_v3]
  have bk0_V9 : (v3.setCell ⟨w4.heap.size, 0, none⟩ (.slice a5 (n - 1) c5)).cell? ⟨w.heap.size, 0, none⟩ = some (.slice (some ⟨g, 0, none⟩) n cc) := cell_set1 (bk0_v3) (by have := as_W1.out; have := sz_W1.out; have := as_W2.out; have := sz_W2.out; have := as_W3.out; have := sz_W3.out; have := sz_w4.out; have := as_W5.out; have := sz_W5.out; have := sz_w6.out; have := sz_w7.out; have := sz_w8.out; have := sz_v3.out; omega)
  have bk1_V9 : (v3.setCell ⟨w4.heap.size, 0, none⟩ (.slice a5 (n - 1) c5)).cell? ⟨w.heap.size, 1, none⟩ = some (.int .i64 T) := cell_set1 (bk1_v3) (by have := as_W1.out; have := sz_W1.out; have := as_W2.out; have := sz_W2.out; have := as_W3.out; have := sz_W3.out; have := sz_w4.out; have := as_W5.out; have := sz_W5.out; have := sz_w6.out; have := sz_w7.out; have := sz_w8.out; have := sz_v3.out; omega)
  have bk2_V9 : (v3.setCell ⟨w4.heap.size, 0, none⟩ (.slice a5 (n - 1) c5)).cell? ⟨w.heap.size, 2, none⟩ = some (.int .i64 N) := cell_set1 (bk2_v3) (by have := as_W1.out; have := sz_W1.out; have := as_W2.out; have := sz_W2.out; have := as_W3.out; have := sz_W3.out; have := sz_w4.out; have := as_W5.out; have := sz_W5.out; have := sz_w6.out; have := sz_w7.out; have := sz_w8.out; have := sz_v3.out; omega)
  have bkF_V9 : ∀ o, (v3.setCell ⟨w4.heap.size, 0, none⟩ (.slice a5 (n - 1) c5)).frozen? ⟨w.heap.size, o, none⟩ = false := fun o => frz_set1 ((bkF_v3 o))
  have bkL_V9 : w.heap.size < (v3.setCell ⟨w4.heap.size, 0, none⟩ (.slice a5 (n - 1) c5)).heap.size := by simpa using bkL_v3
  have at0_V9 : (v3.setCell ⟨w4.heap.size, 0, none⟩ (.slice a5 (n - 1) c5)).cell? ⟨w.heap.size + 1, 0, none⟩ = some (.bool ad.s) := cell_set1 (at0_v3) (by have := as_W1.out; have := sz_W1.out; have := as_W2.out; have := sz_W2.out; have := as_W3.out; have := sz_W3.out; have := sz_w4.out; have := as_W5.out; have := sz_W5.out; have := sz_w6.out; have := sz_w7.out; have := sz_w8.out; have := sz_v3.out; omega)
  have at1_V9 : (v3.setCell ⟨w4.heap.size, 0, none⟩ (.slice a5 (n - 1) c5)).cell? ⟨w.heap.size + 1, 1, none⟩ = some (.int .i64 ad.H.toInt) := cell_set1 (at1_v3) (by have := as_W1.out; have := sz_W1.out; have := as_W2.out; have := sz_W2.out; have := as_W3.out; have := sz_W3.out; have := sz_w4.out; have := as_W5.out; have := sz_W5.out; have := sz_w6.out; have := sz_w7.out; have := sz_w8.out; have := sz_v3.out; omega)
  have at2_V9 : (v3.setCell ⟨w4.heap.size, 0, none⟩ (.slice a5 (n - 1) c5)).cell? ⟨w.heap.size + 1, 2, none⟩ = some (.int .i64 ad.L.toInt) := cell_set1 (at2_v3) (by have := as_W1.out; have := sz_W1.out; have := as_W2.out; have := sz_W2.out; have := as_W3.out; have := sz_W3.out; have := sz_w4.out; have := as_W5.out; have := sz_W5.out; have := sz_w6.out; have := sz_w7.out; have := sz_w8.out; have := sz_v3.out; omega)
  have atF_V9 : ∀ o, (v3.setCell ⟨w4.heap.size, 0, none⟩ (.slice a5 (n - 1) c5)).frozen? ⟨w.heap.size + 1, o, none⟩ = false := fun o => frz_set1 ((atF_v3 o))
  have atL_V9 : w.heap.size + 1 < (v3.setCell ⟨w4.heap.size, 0, none⟩ (.slice a5 (n - 1) c5)).heap.size := by simpa using atL_v3
  have rs0_V9 : (v3.setCell ⟨w4.heap.size, 0, none⟩ (.slice a5 (n - 1) c5)).cell? ⟨w.heap.size + 1 + 1, 0, none⟩ = some (.slice none 0 0) := cell_set1 (rs0_v3) (by have := as_W1.out; have := sz_W1.out; have := as_W2.out; have := sz_W2.out; have := as_W3.out; have := sz_W3.out; have := sz_w4.out; have := as_W5.out; have := sz_W5.out; have := sz_w6.out; have := sz_w7.out; have := sz_w8.out; have := sz_v3.out; omega)
  have rs1_V9 : (v3.setCell ⟨w4.heap.size, 0, none⟩ (.slice a5 (n - 1) c5)).cell? ⟨w.heap.size + 1 + 1, 1, none⟩ = some (.int .i64 0) := cell_set1 (rs1_v3) (by have := as_W1.out; have := sz_W1.out; have := as_W2.out; have := sz_W2.out; have := as_W3.out; have := sz_W3.out; have := sz_w4.out; have := as_W5.out; have := sz_W5.out; have := sz_w6.out; have := sz_w7.out; have := sz_w8.out; have := sz_v3.out; omega)
  have rs2_V9 : (v3.setCell ⟨w4.heap.size, 0, none⟩ (.slice a5 (n - 1) c5)).cell? ⟨w.heap.size + 1 + 1, 2, none⟩ = some (.int .i64 0) := cell_set1 (rs2_v3) (by have := as_W1.out; have := sz_W1.out; have := as_W2.out; have := sz_W2.out; have := as_W3.out; have := sz_W3.out; have := sz_w4.out; have := as_W5.out; have := sz_W5.out; have := sz_w6.out; have := sz_w7.out; have := sz_w8.out; have := sz_v3.out; omega)
  have rsF_V9 : ∀ o, (v3.setCell ⟨w4.heap.size, 0, none⟩ (.slice a5 (n - 1) c5)).frozen? ⟨w.heap.size + 1 + 1, o, none⟩ = false := fun o => frz_set1 ((rsF_v3 o))
  have rsL_V9 : w.heap.size + 1 + 1 < (v3.setCell ⟨w4.heap.size, 0, none⟩ (.slice a5 (n - 1) c5)).heap.size := by simpa using rsL_v3
  have ouF_V9 : ∀ o, (v3.setCell ⟨w4.heap.size, 0, none⟩ (.slice a5 (n - 1) c5)).frozen? ⟨w4.heap.size, o, none⟩ = false := fun o => frz_set1 ((ouF_v3 o))
  have ouL_V9 : w4.heap.size < (v3.setCell ⟨w4.heap.size, 0, none⟩ (.slice a5 (n - 1) c5)).heap.size := by simpa using ouL_v3
  have oP_V9 : Hid (OwnG KLs 35 (v3.setCell ⟨w4.heap.size, 0, none⟩ (.slice a5 (n - 1) c5)) (w8.heap.size) (.slice a5 (n - 1) c5) (ls.eraseIdx I)) := hidP (OwnG.grown (oP_v3.out) (grown_cellG _ _ _ _) (OwnG.ne_of oP_v3.out (by have := as_W1.out; have := sz_W1.out; have := as_W2.out; have := sz_W2.out; have := as_W3.out; have := sz_W3.out; have := sz_w4.out; have := as_W5.out; have := sz_W5.out; have := sz_w6.out; have := sz_w7.out; have := sz_w8.out; have := sz_v3.out; omega)))
  have acc_V9 : Hid (Below w.heap.size w (v3.setCell ⟨w4.heap.size, 0, none⟩ (.slice a5 (n - 1) c5))) := hidP (Below.setCell (acc_v3.out) (by have := as_W1.out; have := sz_W1.out; have := as_W2.out; have := sz_W2.out; have := as_W3.out; have := sz_W3.out; have := sz_w4.out; have := as_W5.out; have := sz_W5.out; have := sz_w6.out; have := sz_w7.out; have := sz_w8.out; have := sz_v3.out; try dsimp only; omega) _)
  have sz_V9 : Hid ((v3.setCell ⟨w4.heap.size, 0, none⟩ (.slice a5 (n - 1) c5)).heap.size = v3.heap.size) := hidP (by simp)
  generalize v3.setCell ⟨w4.heap.size, 0, none⟩ (.slice a5 (n - 1) c5) = V9 at *
  clear ou0_v3 ou1_v3 ou2_v3 bk0_v3 bk1_v3 bk2_v3 bkF_v3 bkL_v3 at0_v3 at1_v3 at2_v3 atF_v3 atL_v3 rs0_v3 rs1_v3 rs2_v3 rsF_v3 rsL_v3 ouF_v3 ouL_v3 oP_v3 acc_v3
  go_wp2_with fail
  refine bodyPost_ret (v := .tuple #[.agg #[.slice a5 (n - 1) c5, .int .i64 T, .int .i64 N], .int .i64 0]) (by simp [results, Tryz.results58, go_sem, rs0_V9, rs1_V9, rs2_V9]) rfl ⟨_, _, rfl, ?_, ?_⟩
  · refine OwnG.mono (B := w8.heap.size) ?_ (by have := as_W1.out; have := sz_W1.out; have := as_W2.out; have := sz_W2.out; have := as_W3.out; have := sz_W3.out; have := sz_w4.out; have := as_W5.out; have := sz_W5.out; have := sz_w6.out; have := sz_w7.out; have := sz_w8.out; have := sz_v3.out; have := sz_V9.out; omega)
    iterate 3 (with_reducible refine OwnG.grown ?_ (grown_cellG _ _ _ _) ?_; rotate_left; (focus (exact OwnG.ne_of oP_V9.out (by have := as_W1.out; have := sz_W1.out; have := as_W2.out; have := sz_W2.out; have := as_W3.out; have := sz_W3.out; have := sz_w4.out; have := as_W5.out; have := sz_W5.out; have := sz_w6.out; have := sz_w7.out; have := sz_w8.out; have := sz_v3.out; have := sz_V9.out; omega))))
    with_reducible exact oP_V9.out
  · repeat (with_reducible refine Below.setCell ?_ ?_ _; rotate_left; (focus (first | (simp; done) | (simp; omega))))
    exact acc_V9.out

end Go.Proofs.YtddnofonodgneaaGreatDoor
