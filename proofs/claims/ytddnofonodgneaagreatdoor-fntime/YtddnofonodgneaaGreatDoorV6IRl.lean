/-
  The program's Release.
-/
import Derived.Test.YtddnofonodgneaaGreatDoorV6Hld
import Derived.Test.YtddnofonodgneaaGreatDoorV6Code
import Derived.Test.YtddnofonodgneaaGreatDoorV6Own
import Derived.Test.YtddnofonodgneaaGreatDoorV6Del
namespace Go.Proofs.YtddnofonodgneaaGreatDoor
open Go.RowKit

theorem cell_set1 {w : World} {b o x o' : Nat} {u v : Value} (h : w.cell? ⟨b, o, none⟩ = some u) (hne : b ≠ x) : (w.setCell ⟨x, o', none⟩ v).cell? ⟨b, o, none⟩ = some u := by
  rw [World.cell?_of_block (w := w) ((grown_cellG w x o' v).block b (World.block_lt_of_cell? w _ h) (fun e => hne (by simpa using e)))]
  exact h
theorem frz_set1 {w : World} {b o x o' : Nat} {v : Value} (h : w.frozen? ⟨b, o, none⟩ = false) : (w.setCell ⟨x, o', none⟩ v).frozen? ⟨b, o, none⟩ = false := by
  simpa [go_sem] using h
theorem own_some {α : Type} {K : Kd α} {t : TypeId} {w : World} {B n c : Nat} {a : Option Addr} {ps : List α} (h : OwnG K t w B (.slice a n c) ps) (hn : 0 < n) : ∃ g, a = some ⟨g, 0, none⟩ := by
  rcases h.2 with ⟨hv, _⟩ | ⟨g, cap', cur, hv, _⟩
  · simp at hv; omega
  · simp at hv; exact ⟨g, hv.1⟩
theorem cell_grown {w w' : World} {r : Option Nat} {b o : Nat} {u : Value} (hg : w.grownBy w' r) (h : w.cell? ⟨b, o, none⟩ = some u) (hne : ∀ k, r = some k → k ≠ b) : w'.cell? ⟨b, o, none⟩ = some u :=
  (World.cell?_of_block (w := w) (hg.block b (World.block_lt_of_cell? w _ h) (fun e => hne b e.symm rfl))).trans h
theorem frz_grown {w w' : World} {r : Option Nat} {b o : Nat} (hg : w.grownBy w' r) (hb : b < w.heap.size) (h : w.frozen? ⟨b, o, none⟩ = false) (hne : ∀ k, r = some k → k ≠ b) : w'.frozen? ⟨b, o, none⟩ = false :=
  (World.frozen?_of_block (w := w) (hg.block b hb (fun e => hne b e.symm rfl))).trans h

set_option maxRecDepth 10000 in
set_option maxHeartbeats 4000000 in
theorem iRel_no (a : Option Addr) (n c : Nat) (T N : Int) (ls : List Ls) (ad : Ad) (tk : Int) (w : World) (hn : n = ls.length) (hB : RowG KLs w a ls) (hl : n ≤ 1048576) (x : Int) (HP : ∀ W a c, RowG KLs W a ls → Calls Tryz.prog 35 #[.agg #[.slice a n c, .int .i64 T, .int .i64 N], .agg #[.bool ad.s, .int .i64 ad.H.toInt, .int .i64 ad.L.toInt], .int .i64 tk] W fun e w' => e = .returned (.tuple #[.int .i64 0, .iface 89 (.agg #[.int .i64 x])]) ∧ Below W.heap.size W w') (hg : GlobE w) :
    Calls Tryz.prog 12 #[.agg #[.slice a n c, .int .i64 T, .int .i64 N], .agg #[.bool ad.s, .int .i64 ad.H.toInt, .int .i64 ad.L.toInt], .int .i64 tk] w fun e w' => ∃ a' c', e = .returned (.tuple #[.agg #[.slice a' n c', .int .i64 T, .int .i64 N], .int .i64 x]) ∧ OwnG KLs 35 w' w.heap.size (.slice a' n c') (ls) ∧ Below w.heap.size w w' := by
  have HOw := hidP (fun W h => ownBook_any a n c T N ls W hn (hB.later h) hl)
  have HPh := hidP HP
  have HN := hidP hn
  clear hB hn HP
  have HG := hidP hg
  clear hg
  go_enter Tryz.func12, Tryz.ntmps12
  go_wp2_with fail
  obtain ⟨bk0_W1, bk1_W1, bk2_W1⟩ := box3B w 26 (.slice a n c) (.int .i64 T) (.int .i64 N)
  have bkF_W1 : ∀ o, (w.alloc (.cells #[.slice a n c, .int .i64 T, .int .i64 N] 26)).frozen? ⟨w.heap.size, o, none⟩ = false := fun o => by simp [go_sem]
  have bkL_W1 : w.heap.size < (w.alloc (.cells #[.slice a n c, .int .i64 T, .int .i64 N] 26)).heap.size := by simp
  have ab_W1 := alloc_below w (.cells #[.slice a n c, .int .i64 T, .int .i64 N] 26)
  have as_W1 : Hid ((w.alloc (.cells #[.slice a n c, .int .i64 T, .int .i64 N] 26)).heap.size = w.heap.size + 1) := hidP (by simp)
  generalize w.alloc (.cells #[.slice a n c, .int .i64 T, .int .i64 N] 26) = W1 at *
  have acc_W1 := hidP (ab_W1)
  have sz_W1 : Hid (w.heap.size ≤ W1.heap.size) := hidP ab_W1.size
  clear ab_W1 
  obtain ⟨at0_W2, at1_W2, at2_W2⟩ := box3B W1 28 (.bool ad.s) (.int .i64 ad.H.toInt) (.int .i64 ad.L.toInt)
  have atF_W2 : ∀ o, (W1.alloc (.cells #[.bool ad.s, .int .i64 ad.H.toInt, .int .i64 ad.L.toInt] 28)).frozen? ⟨W1.heap.size, o, none⟩ = false := fun o => by simp [go_sem]
  have atL_W2 : W1.heap.size < (W1.alloc (.cells #[.bool ad.s, .int .i64 ad.H.toInt, .int .i64 ad.L.toInt] 28)).heap.size := by simp
  have ab_W2 := alloc_below W1 (.cells #[.bool ad.s, .int .i64 ad.H.toInt, .int .i64 ad.L.toInt] 28)
  have as_W2 : Hid ((W1.alloc (.cells #[.bool ad.s, .int .i64 ad.H.toInt, .int .i64 ad.L.toInt] 28)).heap.size = W1.heap.size + 1) := hidP (by simp)
  generalize W1.alloc (.cells #[.bool ad.s, .int .i64 ad.H.toInt, .int .i64 ad.L.toInt] 28) = W2 at *
  have bk0_W2 := (ab_W2.cell bkL_W1).trans bk0_W1
  have bk1_W2 := (ab_W2.cell bkL_W1).trans bk1_W1
  have bk2_W2 := (ab_W2.cell bkL_W1).trans bk2_W1
  have bkF_W2 : ∀ o, W2.frozen? ⟨w.heap.size, o, none⟩ = false := fun o => (ab_W2.frozen bkL_W1).trans (bkF_W1 o)
  have bkL_W2 : w.heap.size < W2.heap.size := Nat.lt_of_lt_of_le bkL_W1 ab_W2.size
  have acc_W2 := hidP (acc_W1.out.trans (ab_W2.mono acc_W1.out.size))
  have sz_W2 : Hid (W1.heap.size ≤ W2.heap.size) := hidP ab_W2.size
  clear ab_W2 bk0_W1 bk1_W1 bk2_W1 bkF_W1 bkL_W1 acc_W1
  rw [as_W1.out] at at0_W2 at1_W2 at2_W2 atL_W2
  have atF_W2' : ∀ o, W2.frozen? ⟨w.heap.size + 1, o, none⟩ = false := fun o => by have := atF_W2 o; rw [as_W1.out] at this; exact this
  clear atF_W2
  have atF_W2 := atF_W2'
  clear atF_W2'
  obtain ⟨rs0_W3, rs1_W3, rs2_W3⟩ := box3B W2 26 (.slice none 0 0) (.int .i64 0) (.int .i64 0)
  have rsF_W3 : ∀ o, (W2.alloc (.cells #[.slice none 0 0, .int .i64 0, .int .i64 0] 26)).frozen? ⟨W2.heap.size, o, none⟩ = false := fun o => by simp [go_sem]
  have rsL_W3 : W2.heap.size < (W2.alloc (.cells #[.slice none 0 0, .int .i64 0, .int .i64 0] 26)).heap.size := by simp
  have ab_W3 := alloc_below W2 (.cells #[.slice none 0 0, .int .i64 0, .int .i64 0] 26)
  have as_W3 : Hid ((W2.alloc (.cells #[.slice none 0 0, .int .i64 0, .int .i64 0] 26)).heap.size = W2.heap.size + 1) := hidP (by simp)
  generalize W2.alloc (.cells #[.slice none 0 0, .int .i64 0, .int .i64 0] 26) = W3 at *
  have bk0_W3 := (ab_W3.cell bkL_W2).trans bk0_W2
  have bk1_W3 := (ab_W3.cell bkL_W2).trans bk1_W2
  have bk2_W3 := (ab_W3.cell bkL_W2).trans bk2_W2
  have bkF_W3 : ∀ o, W3.frozen? ⟨w.heap.size, o, none⟩ = false := fun o => (ab_W3.frozen bkL_W2).trans (bkF_W2 o)
  have bkL_W3 : w.heap.size < W3.heap.size := Nat.lt_of_lt_of_le bkL_W2 ab_W3.size
  have at0_W3 := (ab_W3.cell atL_W2).trans at0_W2
  have at1_W3 := (ab_W3.cell atL_W2).trans at1_W2
  have at2_W3 := (ab_W3.cell atL_W2).trans at2_W2
  have atF_W3 : ∀ o, W3.frozen? ⟨w.heap.size + 1, o, none⟩ = false := fun o => (ab_W3.frozen atL_W2).trans (atF_W2 o)
  have atL_W3 : w.heap.size + 1 < W3.heap.size := Nat.lt_of_lt_of_le atL_W2 ab_W3.size
  have acc_W3 := hidP (acc_W2.out.trans (ab_W3.mono acc_W2.out.size))
  have sz_W3 : Hid (W2.heap.size ≤ W3.heap.size) := hidP ab_W3.size
  clear ab_W3 bk0_W2 bk1_W2 bk2_W2 bkF_W2 bkL_W2 at0_W2 at1_W2 at2_W2 atF_W2 atL_W2 acc_W2
  rw [as_W2.out, as_W1.out] at rs0_W3 rs1_W3 rs2_W3 rsL_W3
  have rsF_W3' : ∀ o, W3.frozen? ⟨w.heap.size + 1 + 1, o, none⟩ = false := fun o => by have := rsF_W3 o; rw [as_W2.out, as_W1.out] at this; exact this
  clear rsF_W3
  have rsF_W3 := rsF_W3'
  clear rsF_W3'
  refine (HOw.out _ acc_W3.out).mono ?_
  rintro e w4 ⟨a3, c3, rfl, og3, hb4⟩
  have og3' := hidP og3
  clear og3
  have bk0_w4 := (hb4.cell bkL_W3).trans bk0_W3
  have bk1_w4 := (hb4.cell bkL_W3).trans bk1_W3
  have bk2_w4 := (hb4.cell bkL_W3).trans bk2_W3
  have bkF_w4 : ∀ o, w4.frozen? ⟨w.heap.size, o, none⟩ = false := fun o => (hb4.frozen bkL_W3).trans (bkF_W3 o)
  have bkL_w4 : w.heap.size < w4.heap.size := Nat.lt_of_lt_of_le bkL_W3 hb4.size
  have at0_w4 := (hb4.cell atL_W3).trans at0_W3
  have at1_w4 := (hb4.cell atL_W3).trans at1_W3
  have at2_w4 := (hb4.cell atL_W3).trans at2_W3
  have atF_w4 : ∀ o, w4.frozen? ⟨w.heap.size + 1, o, none⟩ = false := fun o => (hb4.frozen atL_W3).trans (atF_W3 o)
  have atL_w4 : w.heap.size + 1 < w4.heap.size := Nat.lt_of_lt_of_le atL_W3 hb4.size
  have rs0_w4 := (hb4.cell rsL_W3).trans rs0_W3
  have rs1_w4 := (hb4.cell rsL_W3).trans rs1_W3
  have rs2_w4 := (hb4.cell rsL_W3).trans rs2_W3
  have rsF_w4 : ∀ o, w4.frozen? ⟨w.heap.size + 1 + 1, o, none⟩ = false := fun o => (hb4.frozen rsL_W3).trans (rsF_W3 o)
  have rsL_w4 : w.heap.size + 1 + 1 < w4.heap.size := Nat.lt_of_lt_of_le rsL_W3 hb4.size
  have acc_w4 := hidP (acc_W3.out.trans (hb4.mono acc_W3.out.size))
  have sz_w4 : Hid (W3.heap.size ≤ w4.heap.size) := hidP hb4.size
  clear hb4 bk0_W3 bk1_W3 bk2_W3 bkF_W3 bkL_W3 at0_W3 at1_W3 at2_W3 atF_W3 atL_W3 rs0_W3 rs1_W3 rs2_W3 rsF_W3 rsL_W3 acc_W3
  have oL_w4 := hidP (og3'.out)
  have lhL : Hid (∀ k, (Value.slice a3 n c3).ownBlock = some k → W3.heap.size ≤ k ∧ k < w4.heap.size) := hidP (fun k hk => OwnG.lt oL_w4.out k hk)
  clear og3'
  go_wp2_with fail
  have bk0_W5 : (((w4.setCell ⟨w.heap.size, 0, none⟩ (.slice a3 n c3)).setCell ⟨w.heap.size, 1, none⟩ (.int .i64 T)).setCell ⟨w.heap.size, 2, none⟩ (.int .i64 N)).cell? ⟨w.heap.size, 0, none⟩ = some (.slice a3 n c3) := by simp [go_sem, bk0_w4]
  have bk1_W5 : (((w4.setCell ⟨w.heap.size, 0, none⟩ (.slice a3 n c3)).setCell ⟨w.heap.size, 1, none⟩ (.int .i64 T)).setCell ⟨w.heap.size, 2, none⟩ (.int .i64 N)).cell? ⟨w.heap.size, 1, none⟩ = some (.int .i64 T) := by simp [go_sem, bk1_w4]
  have bk2_W5 : (((w4.setCell ⟨w.heap.size, 0, none⟩ (.slice a3 n c3)).setCell ⟨w.heap.size, 1, none⟩ (.int .i64 T)).setCell ⟨w.heap.size, 2, none⟩ (.int .i64 N)).cell? ⟨w.heap.size, 2, none⟩ = some (.int .i64 N) := by simp [go_sem, bk2_w4]
  have bkF_W5 : ∀ o, (((w4.setCell ⟨w.heap.size, 0, none⟩ (.slice a3 n c3)).setCell ⟨w.heap.size, 1, none⟩ (.int .i64 T)).setCell ⟨w.heap.size, 2, none⟩ (.int .i64 N)).frozen? ⟨w.heap.size, o, none⟩ = false := fun o => frz_set1 (frz_set1 (frz_set1 ((bkF_w4 o))))
  have bkL_W5 : w.heap.size < (((w4.setCell ⟨w.heap.size, 0, none⟩ (.slice a3 n c3)).setCell ⟨w.heap.size, 1, none⟩ (.int .i64 T)).setCell ⟨w.heap.size, 2, none⟩ (.int .i64 N)).heap.size := by simpa using bkL_w4
  have at0_W5 : (((w4.setCell ⟨w.heap.size, 0, none⟩ (.slice a3 n c3)).setCell ⟨w.heap.size, 1, none⟩ (.int .i64 T)).setCell ⟨w.heap.size, 2, none⟩ (.int .i64 N)).cell? ⟨w.heap.size + 1, 0, none⟩ = some (.bool ad.s) := cell_set1 (cell_set1 (cell_set1 (at0_w4) (by have := as_W1.out; have := sz_W1.out; have := as_W2.out; have := sz_W2.out; have := as_W3.out; have := sz_W3.out; have := sz_w4.out; omega)) (by have := as_W1.out; have := sz_W1.out; have := as_W2.out; have := sz_W2.out; have := as_W3.out; have := sz_W3.out; have := sz_w4.out; omega)) (by have := as_W1.out; have := sz_W1.out; have := as_W2.out; have := sz_W2.out; have := as_W3.out; have := sz_W3.out; have := sz_w4.out; omega)
  have at1_W5 : (((w4.setCell ⟨w.heap.size, 0, none⟩ (.slice a3 n c3)).setCell ⟨w.heap.size, 1, none⟩ (.int .i64 T)).setCell ⟨w.heap.size, 2, none⟩ (.int .i64 N)).cell? ⟨w.heap.size + 1, 1, none⟩ = some (.int .i64 ad.H.toInt) := cell_set1 (cell_set1 (cell_set1 (at1_w4) (by have := as_W1.out; have := sz_W1.out; have := as_W2.out; have := sz_W2.out; have := as_W3.out; have := sz_W3.out; have := sz_w4.out; omega)) (by have := as_W1.out; have := sz_W1.out; have := as_W2.out; have := sz_W2.out; have := as_W3.out; have := sz_W3.out; have := sz_w4.out; omega)) (by have := as_W1.out; have := sz_W1.out; have := as_W2.out; have := sz_W2.out; have := as_W3.out; have := sz_W3.out; have := sz_w4.out; omega)
  have at2_W5 : (((w4.setCell ⟨w.heap.size, 0, none⟩ (.slice a3 n c3)).setCell ⟨w.heap.size, 1, none⟩ (.int .i64 T)).setCell ⟨w.heap.size, 2, none⟩ (.int .i64 N)).cell? ⟨w.heap.size + 1, 2, none⟩ = some (.int .i64 ad.L.toInt) := cell_set1 (cell_set1 (cell_set1 (at2_w4) (by have := as_W1.out; have := sz_W1.out; have := as_W2.out; have := sz_W2.out; have := as_W3.out; have := sz_W3.out; have := sz_w4.out; omega)) (by have := as_W1.out; have := sz_W1.out; have := as_W2.out; have := sz_W2.out; have := as_W3.out; have := sz_W3.out; have := sz_w4.out; omega)) (by have := as_W1.out; have := sz_W1.out; have := as_W2.out; have := sz_W2.out; have := as_W3.out; have := sz_W3.out; have := sz_w4.out; omega)
  have atF_W5 : ∀ o, (((w4.setCell ⟨w.heap.size, 0, none⟩ (.slice a3 n c3)).setCell ⟨w.heap.size, 1, none⟩ (.int .i64 T)).setCell ⟨w.heap.size, 2, none⟩ (.int .i64 N)).frozen? ⟨w.heap.size + 1, o, none⟩ = false := fun o => frz_set1 (frz_set1 (frz_set1 ((atF_w4 o))))
  have atL_W5 : w.heap.size + 1 < (((w4.setCell ⟨w.heap.size, 0, none⟩ (.slice a3 n c3)).setCell ⟨w.heap.size, 1, none⟩ (.int .i64 T)).setCell ⟨w.heap.size, 2, none⟩ (.int .i64 N)).heap.size := by simpa using atL_w4
  have rs0_W5 : (((w4.setCell ⟨w.heap.size, 0, none⟩ (.slice a3 n c3)).setCell ⟨w.heap.size, 1, none⟩ (.int .i64 T)).setCell ⟨w.heap.size, 2, none⟩ (.int .i64 N)).cell? ⟨w.heap.size + 1 + 1, 0, none⟩ = some (.slice none 0 0) := cell_set1 (cell_set1 (cell_set1 (rs0_w4) (by have := as_W1.out; have := sz_W1.out; have := as_W2.out; have := sz_W2.out; have := as_W3.out; have := sz_W3.out; have := sz_w4.out; omega)) (by have := as_W1.out; have := sz_W1.out; have := as_W2.out; have := sz_W2.out; have := as_W3.out; have := sz_W3.out; have := sz_w4.out; omega)) (by have := as_W1.out; have := sz_W1.out; have := as_W2.out; have := sz_W2.out; have := as_W3.out; have := sz_W3.out; have := sz_w4.out; omega)
  have rs1_W5 : (((w4.setCell ⟨w.heap.size, 0, none⟩ (.slice a3 n c3)).setCell ⟨w.heap.size, 1, none⟩ (.int .i64 T)).setCell ⟨w.heap.size, 2, none⟩ (.int .i64 N)).cell? ⟨w.heap.size + 1 + 1, 1, none⟩ = some (.int .i64 0) := cell_set1 (cell_set1 (cell_set1 (rs1_w4) (by have := as_W1.out; have := sz_W1.out; have := as_W2.out; have := sz_W2.out; have := as_W3.out; have := sz_W3.out; have := sz_w4.out; omega)) (by have := as_W1.out; have := sz_W1.out; have := as_W2.out; have := sz_W2.out; have := as_W3.out; have := sz_W3.out; have := sz_w4.out; omega)) (by have := as_W1.out; have := sz_W1.out; have := as_W2.out; have := sz_W2.out; have := as_W3.out; have := sz_W3.out; have := sz_w4.out; omega)
  have rs2_W5 : (((w4.setCell ⟨w.heap.size, 0, none⟩ (.slice a3 n c3)).setCell ⟨w.heap.size, 1, none⟩ (.int .i64 T)).setCell ⟨w.heap.size, 2, none⟩ (.int .i64 N)).cell? ⟨w.heap.size + 1 + 1, 2, none⟩ = some (.int .i64 0) := cell_set1 (cell_set1 (cell_set1 (rs2_w4) (by have := as_W1.out; have := sz_W1.out; have := as_W2.out; have := sz_W2.out; have := as_W3.out; have := sz_W3.out; have := sz_w4.out; omega)) (by have := as_W1.out; have := sz_W1.out; have := as_W2.out; have := sz_W2.out; have := as_W3.out; have := sz_W3.out; have := sz_w4.out; omega)) (by have := as_W1.out; have := sz_W1.out; have := as_W2.out; have := sz_W2.out; have := as_W3.out; have := sz_W3.out; have := sz_w4.out; omega)
  have rsF_W5 : ∀ o, (((w4.setCell ⟨w.heap.size, 0, none⟩ (.slice a3 n c3)).setCell ⟨w.heap.size, 1, none⟩ (.int .i64 T)).setCell ⟨w.heap.size, 2, none⟩ (.int .i64 N)).frozen? ⟨w.heap.size + 1 + 1, o, none⟩ = false := fun o => frz_set1 (frz_set1 (frz_set1 ((rsF_w4 o))))
  have rsL_W5 : w.heap.size + 1 + 1 < (((w4.setCell ⟨w.heap.size, 0, none⟩ (.slice a3 n c3)).setCell ⟨w.heap.size, 1, none⟩ (.int .i64 T)).setCell ⟨w.heap.size, 2, none⟩ (.int .i64 N)).heap.size := by simpa using rsL_w4
  have oL_W5 : Hid (OwnG KLs 35 (((w4.setCell ⟨w.heap.size, 0, none⟩ (.slice a3 n c3)).setCell ⟨w.heap.size, 1, none⟩ (.int .i64 T)).setCell ⟨w.heap.size, 2, none⟩ (.int .i64 N)) (W3.heap.size) (.slice a3 n c3) (ls)) := hidP (OwnG.grown (OwnG.grown (OwnG.grown (oL_w4.out) (grown_cellG _ _ _ _) (OwnG.ne_of oL_w4.out (by have := as_W1.out; have := sz_W1.out; have := as_W2.out; have := sz_W2.out; have := as_W3.out; have := sz_W3.out; have := sz_w4.out; omega))) (grown_cellG _ _ _ _) (OwnG.ne_of oL_w4.out (by have := as_W1.out; have := sz_W1.out; have := as_W2.out; have := sz_W2.out; have := as_W3.out; have := sz_W3.out; have := sz_w4.out; omega))) (grown_cellG _ _ _ _) (OwnG.ne_of oL_w4.out (by have := as_W1.out; have := sz_W1.out; have := as_W2.out; have := sz_W2.out; have := as_W3.out; have := sz_W3.out; have := sz_w4.out; omega)))
  have acc_W5 : Hid (Below w.heap.size w (((w4.setCell ⟨w.heap.size, 0, none⟩ (.slice a3 n c3)).setCell ⟨w.heap.size, 1, none⟩ (.int .i64 T)).setCell ⟨w.heap.size, 2, none⟩ (.int .i64 N))) := hidP (Below.setCell (Below.setCell (Below.setCell (acc_w4.out) (by have := as_W1.out; have := sz_W1.out; have := as_W2.out; have := sz_W2.out; have := as_W3.out; have := sz_W3.out; have := sz_w4.out; try dsimp only; omega) _) (by have := as_W1.out; have := sz_W1.out; have := as_W2.out; have := sz_W2.out; have := as_W3.out; have := sz_W3.out; have := sz_w4.out; try dsimp only; omega) _) (by have := as_W1.out; have := sz_W1.out; have := as_W2.out; have := sz_W2.out; have := as_W3.out; have := sz_W3.out; have := sz_w4.out; try dsimp only; omega) _)
  have sz_W5 : Hid ((((w4.setCell ⟨w.heap.size, 0, none⟩ (.slice a3 n c3)).setCell ⟨w.heap.size, 1, none⟩ (.int .i64 T)).setCell ⟨w.heap.size, 2, none⟩ (.int .i64 N)).heap.size = w4.heap.size) := hidP (by simp)
  generalize ((w4.setCell ⟨w.heap.size, 0, none⟩ (.slice a3 n c3)).setCell ⟨w.heap.size, 1, none⟩ (.int .i64 T)).setCell ⟨w.heap.size, 2, none⟩ (.int .i64 N) = W5 at *
  clear bk0_w4 bk1_w4 bk2_w4 bkF_w4 bkL_w4 at0_w4 at1_w4 at2_w4 atF_w4 atL_w4 rs0_w4 rs1_w4 rs2_w4 rsF_w4 rsL_w4 oL_w4 acc_w4
  refine (HPh.out _ a3 c3 oL_W5.out.row).mono ?_
  rintro e w6 ⟨rfl, hb6⟩
  have bk0_w6 := (hb6.cell bkL_W5).trans bk0_W5
  have bk1_w6 := (hb6.cell bkL_W5).trans bk1_W5
  have bk2_w6 := (hb6.cell bkL_W5).trans bk2_W5
  have bkF_w6 : ∀ o, w6.frozen? ⟨w.heap.size, o, none⟩ = false := fun o => (hb6.frozen bkL_W5).trans (bkF_W5 o)
  have bkL_w6 : w.heap.size < w6.heap.size := Nat.lt_of_lt_of_le bkL_W5 hb6.size
  have at0_w6 := (hb6.cell atL_W5).trans at0_W5
  have at1_w6 := (hb6.cell atL_W5).trans at1_W5
  have at2_w6 := (hb6.cell atL_W5).trans at2_W5
  have atF_w6 : ∀ o, w6.frozen? ⟨w.heap.size + 1, o, none⟩ = false := fun o => (hb6.frozen atL_W5).trans (atF_W5 o)
  have atL_w6 : w.heap.size + 1 < w6.heap.size := Nat.lt_of_lt_of_le atL_W5 hb6.size
  have rs0_w6 := (hb6.cell rsL_W5).trans rs0_W5
  have rs1_w6 := (hb6.cell rsL_W5).trans rs1_W5
  have rs2_w6 := (hb6.cell rsL_W5).trans rs2_W5
  have rsF_w6 : ∀ o, w6.frozen? ⟨w.heap.size + 1 + 1, o, none⟩ = false := fun o => (hb6.frozen rsL_W5).trans (rsF_W5 o)
  have rsL_w6 : w.heap.size + 1 + 1 < w6.heap.size := Nat.lt_of_lt_of_le rsL_W5 hb6.size
  have oL_w6 := hidP (OwnG.later oL_W5.out hb6)
  have acc_w6 := hidP (acc_W5.out.trans (hb6.mono acc_W5.out.size))
  have sz_w6 : Hid (W5.heap.size ≤ w6.heap.size) := hidP hb6.size
  clear hb6 bk0_W5 bk1_W5 bk2_W5 bkF_W5 bkL_W5 at0_W5 at1_W5 at2_W5 atF_W5 atL_W5 rs0_W5 rs1_W5 rs2_W5 rsF_W5 rsL_W5 oL_W5 acc_W5
  go_wp2_with fail
  have hBW : w.heap.size + 1 + 1 ≤ w6.heap.size := (by have := as_W1.out; have := sz_W1.out; have := as_W2.out; have := sz_W2.out; have := as_W3.out; have := sz_W3.out; have := sz_w4.out; have := sz_W5.out; have := sz_w6.out; omega)
  have l0 : w.heap.size < w.heap.size + 1 + 1 := by omega
  have HSx : Hid (∀ x, Below (w.heap.size + 1 + 1) w6 x → (x.cell? ⟨w.heap.size, 0, none⟩ = some (.slice a3 n c3) ∧ x.cell? ⟨w.heap.size, 1, none⟩ = some (.int .i64 T) ∧ x.cell? ⟨w.heap.size, 2, none⟩ = some (.int .i64 N) ∧ Below (w.heap.size + 1 + 1) w6 x)) := hidP fun x h =>
    ⟨(h.cell l0).trans bk0_w6, (h.cell l0).trans bk1_w6, (h.cell l0).trans bk2_w6, h⟩
  refine wp_region_held_drew (S := (fun x => x.cell? ⟨w.heap.size, 0, none⟩ = some (.slice a3 n c3) ∧ x.cell? ⟨w.heap.size, 1, none⟩ = some (.int .i64 T) ∧ x.cell? ⟨w.heap.size, 2, none⟩ = some (.int .i64 N) ∧ Below (w.heap.size + 1 + 1) w6 x)) (by kernel_rfl) ?_ (fun hHeld => ?_)
  · try dsimp only
    exact HSx.out _ (Below.refl _ _).drew
  refine wpAnyH_take (i := 0) (oi := ⟨some 21, _, _, _, _, _⟩) (v := ?_) rfl (by kernel_rfl) (by kernel_rfl) (by kernel_rfl) (fun _ _ _ h => h) (Or.inl ⟨by rfl, ?_⟩) (by assumption) ?_
  rotate_left
  · intro w hSw
    try dsimp only at hSw
    go_simp
    try with_reducible rfl
  simp only [Act.put, List.setIfInBounds_toArray, List.set_cons_zero, List.set_cons_succ]
  refine wpAnyH_take (i := 1) (oi := ⟨some 22, _, _, _, _, _⟩) (v := ?_) rfl (by kernel_rfl) (by kernel_rfl) (by kernel_rfl) (fun _ _ _ h => h) (Or.inl ⟨by rfl, ?_⟩) (by assumption) ?_
  rotate_left
  · intro w hSw
    try dsimp only at hSw
    go_simp
    try with_reducible rfl
  simp only [Act.put, List.setIfInBounds_toArray, List.set_cons_zero, List.set_cons_succ]
  refine wpAnyH_ready (rs := [2]) (by kernel_rfl) (by simp) ?_
  refine AllReadyH.cons rfl (fun K hK => ?_) AllReadyH.nil
  go_simp
  go_wp2_with (first | (go_at_call 26; refine (leaseCode_any x _ (HG.out.later (acc_w6.out.trans (Below.mono (Below.refl _ _).drew (by have := acc_w6.out.size; omega))))).mono ?_; rintro e w7 ⟨rfl, hb7⟩; have b7 := (hHeld.2.2.2).trans (hb7.mono (Nat.le_trans hBW (hHeld.2.2.2).size))))
  refine hK.out _ _ ?_ (fun hHeld => ?_)
  · try dsimp only
    exact HSx.out _ b7
  clear hK K
  have r0 := (hb7.cell (show w.heap.size + 1 + 1 < w6.heap.size from rsL_w6)).trans rs0_w6
  have r1 := (hb7.cell (show w.heap.size + 1 + 1 < w6.heap.size from rsL_w6)).trans rs1_w6
  have r2 := (hb7.cell (show w.heap.size + 1 + 1 < w6.heap.size from rsL_w6)).trans rs2_w6
  have rF : ∀ o, w7.frozen? ⟨w.heap.size + 1 + 1, o, none⟩ = false := fun o => (hb7.frozen (show w.heap.size + 1 + 1 < w6.heap.size from rsL_w6)).trans (rsF_w6 o)
  refine wpAnyH_ready (rs := [3]) (by kernel_rfl) (by simp) ?_
  refine AllReadyH.cons rfl (fun K hK => ?_) AllReadyH.nil
  go_simp
  refine hK.out _ _ ?_ (fun hHeld => ?_)
  · try dsimp only
    refine HSx.out _ ?_
    repeat (with_reducible refine Below.setCell ?_ ?_ _; rotate_left; (focus (first | (simp; done) | (simp; omega))))
    exact b7
  clear hK K
  refine wpAnyH_take (i := 4) (oi := ⟨some 7, _, _, _, _, _⟩) (v := ?_) rfl (by kernel_rfl) (by kernel_rfl) (by kernel_rfl) (fun _ _ _ h => h) (Or.inl ⟨by rfl, ?_⟩) (by assumption) ?_
  rotate_left
  · intro w hSw
    try dsimp only at hSw
    go_simp
    try with_reducible rfl
  simp only [Act.put, List.setIfInBounds_toArray]
  have HE := hidP (hHeld.2.2.2)
  refine wpAnyH_done (by kernel_rfl) ?_ _
  clear hHeld
  have b7' : Below w6.heap.size w6 w7 := by have := hb7; exact (Below.refl _ _).drew.trans this
  clear HE HSx b7 hb7
  have bk0_w7 := (b7'.cell bkL_w6).trans bk0_w6
  have bk1_w7 := (b7'.cell bkL_w6).trans bk1_w6
  have bk2_w7 := (b7'.cell bkL_w6).trans bk2_w6
  have bkF_w7 : ∀ o, w7.frozen? ⟨w.heap.size, o, none⟩ = false := fun o => (b7'.frozen bkL_w6).trans (bkF_w6 o)
  have bkL_w7 : w.heap.size < w7.heap.size := Nat.lt_of_lt_of_le bkL_w6 b7'.size
  have at0_w7 := (b7'.cell atL_w6).trans at0_w6
  have at1_w7 := (b7'.cell atL_w6).trans at1_w6
  have at2_w7 := (b7'.cell atL_w6).trans at2_w6
  have atF_w7 : ∀ o, w7.frozen? ⟨w.heap.size + 1, o, none⟩ = false := fun o => (b7'.frozen atL_w6).trans (atF_w6 o)
  have atL_w7 : w.heap.size + 1 < w7.heap.size := Nat.lt_of_lt_of_le atL_w6 b7'.size
  have rs0_w7 := (b7'.cell rsL_w6).trans rs0_w6
  have rs1_w7 := (b7'.cell rsL_w6).trans rs1_w6
  have rs2_w7 := (b7'.cell rsL_w6).trans rs2_w6
  have rsF_w7 : ∀ o, w7.frozen? ⟨w.heap.size + 1 + 1, o, none⟩ = false := fun o => (b7'.frozen rsL_w6).trans (rsF_w6 o)
  have rsL_w7 : w.heap.size + 1 + 1 < w7.heap.size := Nat.lt_of_lt_of_le rsL_w6 b7'.size
  have oL_w7 := hidP (OwnG.later oL_w6.out b7')
  have acc_w7 := hidP (acc_w6.out.trans (b7'.mono acc_w6.out.size))
  have sz_w7 : Hid (w6.heap.size ≤ w7.heap.size) := hidP b7'.size
  clear b7' bk0_w6 bk1_w6 bk2_w6 bkF_w6 bkL_w6 at0_w6 at1_w6 at2_w6 atF_w6 atL_w6 rs0_w6 rs1_w6 rs2_w6 rsF_w6 rsL_w6 oL_w6 acc_w6
  go_wp2_with fail
  refine bodyPost_ret (v := .tuple #[.agg #[.slice a3 n c3, .int .i64 T, .int .i64 N], .int .i64 x]) (by simp [results, Tryz.results12, go_sem, rs0_w7, rs1_w7, rs2_w7]) rfl ⟨_, _, rfl, ?_, ?_⟩
  · refine OwnG.mono (B := W3.heap.size) ?_ (by have := as_W1.out; have := sz_W1.out; have := as_W2.out; have := sz_W2.out; have := as_W3.out; have := sz_W3.out; have := sz_w4.out; have := sz_W5.out; have := sz_w6.out; have := sz_w7.out; omega)
    iterate 3 (with_reducible refine OwnG.grown ?_ (grown_cellG _ _ _ _) ?_; rotate_left; (focus (exact OwnG.ne_of oL_w7.out (by have := as_W1.out; have := sz_W1.out; have := as_W2.out; have := sz_W2.out; have := as_W3.out; have := sz_W3.out; have := sz_w4.out; have := sz_W5.out; have := sz_w6.out; have := sz_w7.out; omega))))
    with_reducible exact oL_w7.out
  · repeat (with_reducible refine Below.setCell ?_ ?_ _; rotate_left; (focus (first | (simp; done) | (simp; omega))))
    exact acc_w7.out

set_option maxRecDepth 10000 in
set_option maxHeartbeats 4000000 in
theorem iRel_yes (a : Option Addr) (n c : Nat) (T N : Int) (ls : List Ls) (ad : Ad) (tk : Int) (w : World) (hn : n = ls.length) (hB : RowG KLs w a ls) (hl : n ≤ 1048576) (I : Nat) (hI : I < n) (HP : ∀ W a c, RowG KLs W a ls → Calls Tryz.prog 35 #[.agg #[.slice a n c, .int .i64 T, .int .i64 N], .agg #[.bool ad.s, .int .i64 ad.H.toInt, .int .i64 ad.L.toInt], .int .i64 tk] W fun e w' => e = .returned (.tuple #[.int .i64 I, .nilIface]) ∧ Below W.heap.size W w') :
    Calls Tryz.prog 12 #[.agg #[.slice a n c, .int .i64 T, .int .i64 N], .agg #[.bool ad.s, .int .i64 ad.H.toInt, .int .i64 ad.L.toInt], .int .i64 tk] w fun e w' => ∃ a' c', e = .returned (.tuple #[.agg #[.slice a' (n - 1) c', .int .i64 T, .int .i64 N], .int .i64 0]) ∧ OwnG KLs 35 w' w.heap.size (.slice a' (n - 1) c') (ls.eraseIdx I) ∧ Below w.heap.size w w' := by
  have HOw := hidP (fun W h => ownBook_any a n c T N ls W hn (hB.later h) hl)
  have HPh := hidP HP
  have HN := hidP hn
  clear hB hn HP
  go_enter Tryz.func12, Tryz.ntmps12
  go_wp2_with fail
  obtain ⟨bk0_W1, bk1_W1, bk2_W1⟩ := box3B w 26 (.slice a n c) (.int .i64 T) (.int .i64 N)
  have bkF_W1 : ∀ o, (w.alloc (.cells #[.slice a n c, .int .i64 T, .int .i64 N] 26)).frozen? ⟨w.heap.size, o, none⟩ = false := fun o => by simp [go_sem]
  have bkL_W1 : w.heap.size < (w.alloc (.cells #[.slice a n c, .int .i64 T, .int .i64 N] 26)).heap.size := by simp
  have ab_W1 := alloc_below w (.cells #[.slice a n c, .int .i64 T, .int .i64 N] 26)
  have as_W1 : Hid ((w.alloc (.cells #[.slice a n c, .int .i64 T, .int .i64 N] 26)).heap.size = w.heap.size + 1) := hidP (by simp)
  generalize w.alloc (.cells #[.slice a n c, .int .i64 T, .int .i64 N] 26) = W1 at *
  have acc_W1 := hidP (ab_W1)
  have sz_W1 : Hid (w.heap.size ≤ W1.heap.size) := hidP ab_W1.size
  clear ab_W1 
  obtain ⟨at0_W2, at1_W2, at2_W2⟩ := box3B W1 28 (.bool ad.s) (.int .i64 ad.H.toInt) (.int .i64 ad.L.toInt)
  have atF_W2 : ∀ o, (W1.alloc (.cells #[.bool ad.s, .int .i64 ad.H.toInt, .int .i64 ad.L.toInt] 28)).frozen? ⟨W1.heap.size, o, none⟩ = false := fun o => by simp [go_sem]
  have atL_W2 : W1.heap.size < (W1.alloc (.cells #[.bool ad.s, .int .i64 ad.H.toInt, .int .i64 ad.L.toInt] 28)).heap.size := by simp
  have ab_W2 := alloc_below W1 (.cells #[.bool ad.s, .int .i64 ad.H.toInt, .int .i64 ad.L.toInt] 28)
  have as_W2 : Hid ((W1.alloc (.cells #[.bool ad.s, .int .i64 ad.H.toInt, .int .i64 ad.L.toInt] 28)).heap.size = W1.heap.size + 1) := hidP (by simp)
  generalize W1.alloc (.cells #[.bool ad.s, .int .i64 ad.H.toInt, .int .i64 ad.L.toInt] 28) = W2 at *
  have bk0_W2 := (ab_W2.cell bkL_W1).trans bk0_W1
  have bk1_W2 := (ab_W2.cell bkL_W1).trans bk1_W1
  have bk2_W2 := (ab_W2.cell bkL_W1).trans bk2_W1
  have bkF_W2 : ∀ o, W2.frozen? ⟨w.heap.size, o, none⟩ = false := fun o => (ab_W2.frozen bkL_W1).trans (bkF_W1 o)
  have bkL_W2 : w.heap.size < W2.heap.size := Nat.lt_of_lt_of_le bkL_W1 ab_W2.size
  have acc_W2 := hidP (acc_W1.out.trans (ab_W2.mono acc_W1.out.size))
  have sz_W2 : Hid (W1.heap.size ≤ W2.heap.size) := hidP ab_W2.size
  clear ab_W2 bk0_W1 bk1_W1 bk2_W1 bkF_W1 bkL_W1 acc_W1
  rw [as_W1.out] at at0_W2 at1_W2 at2_W2 atL_W2
  have atF_W2' : ∀ o, W2.frozen? ⟨w.heap.size + 1, o, none⟩ = false := fun o => by have := atF_W2 o; rw [as_W1.out] at this; exact this
  clear atF_W2
  have atF_W2 := atF_W2'
  clear atF_W2'
  obtain ⟨rs0_W3, rs1_W3, rs2_W3⟩ := box3B W2 26 (.slice none 0 0) (.int .i64 0) (.int .i64 0)
  have rsF_W3 : ∀ o, (W2.alloc (.cells #[.slice none 0 0, .int .i64 0, .int .i64 0] 26)).frozen? ⟨W2.heap.size, o, none⟩ = false := fun o => by simp [go_sem]
  have rsL_W3 : W2.heap.size < (W2.alloc (.cells #[.slice none 0 0, .int .i64 0, .int .i64 0] 26)).heap.size := by simp
  have ab_W3 := alloc_below W2 (.cells #[.slice none 0 0, .int .i64 0, .int .i64 0] 26)
  have as_W3 : Hid ((W2.alloc (.cells #[.slice none 0 0, .int .i64 0, .int .i64 0] 26)).heap.size = W2.heap.size + 1) := hidP (by simp)
  generalize W2.alloc (.cells #[.slice none 0 0, .int .i64 0, .int .i64 0] 26) = W3 at *
  have bk0_W3 := (ab_W3.cell bkL_W2).trans bk0_W2
  have bk1_W3 := (ab_W3.cell bkL_W2).trans bk1_W2
  have bk2_W3 := (ab_W3.cell bkL_W2).trans bk2_W2
  have bkF_W3 : ∀ o, W3.frozen? ⟨w.heap.size, o, none⟩ = false := fun o => (ab_W3.frozen bkL_W2).trans (bkF_W2 o)
  have bkL_W3 : w.heap.size < W3.heap.size := Nat.lt_of_lt_of_le bkL_W2 ab_W3.size
  have at0_W3 := (ab_W3.cell atL_W2).trans at0_W2
  have at1_W3 := (ab_W3.cell atL_W2).trans at1_W2
  have at2_W3 := (ab_W3.cell atL_W2).trans at2_W2
  have atF_W3 : ∀ o, W3.frozen? ⟨w.heap.size + 1, o, none⟩ = false := fun o => (ab_W3.frozen atL_W2).trans (atF_W2 o)
  have atL_W3 : w.heap.size + 1 < W3.heap.size := Nat.lt_of_lt_of_le atL_W2 ab_W3.size
  have acc_W3 := hidP (acc_W2.out.trans (ab_W3.mono acc_W2.out.size))
  have sz_W3 : Hid (W2.heap.size ≤ W3.heap.size) := hidP ab_W3.size
  clear ab_W3 bk0_W2 bk1_W2 bk2_W2 bkF_W2 bkL_W2 at0_W2 at1_W2 at2_W2 atF_W2 atL_W2 acc_W2
  rw [as_W2.out, as_W1.out] at rs0_W3 rs1_W3 rs2_W3 rsL_W3
  have rsF_W3' : ∀ o, W3.frozen? ⟨w.heap.size + 1 + 1, o, none⟩ = false := fun o => by have := rsF_W3 o; rw [as_W2.out, as_W1.out] at this; exact this
  clear rsF_W3
  have rsF_W3 := rsF_W3'
  clear rsF_W3'
  refine (HOw.out _ acc_W3.out).mono ?_
  rintro e w4 ⟨a3, c3, rfl, og3, hb4⟩
  have og3' := hidP og3
  clear og3
  have bk0_w4 := (hb4.cell bkL_W3).trans bk0_W3
  have bk1_w4 := (hb4.cell bkL_W3).trans bk1_W3
  have bk2_w4 := (hb4.cell bkL_W3).trans bk2_W3
  have bkF_w4 : ∀ o, w4.frozen? ⟨w.heap.size, o, none⟩ = false := fun o => (hb4.frozen bkL_W3).trans (bkF_W3 o)
  have bkL_w4 : w.heap.size < w4.heap.size := Nat.lt_of_lt_of_le bkL_W3 hb4.size
  have at0_w4 := (hb4.cell atL_W3).trans at0_W3
  have at1_w4 := (hb4.cell atL_W3).trans at1_W3
  have at2_w4 := (hb4.cell atL_W3).trans at2_W3
  have atF_w4 : ∀ o, w4.frozen? ⟨w.heap.size + 1, o, none⟩ = false := fun o => (hb4.frozen atL_W3).trans (atF_W3 o)
  have atL_w4 : w.heap.size + 1 < w4.heap.size := Nat.lt_of_lt_of_le atL_W3 hb4.size
  have rs0_w4 := (hb4.cell rsL_W3).trans rs0_W3
  have rs1_w4 := (hb4.cell rsL_W3).trans rs1_W3
  have rs2_w4 := (hb4.cell rsL_W3).trans rs2_W3
  have rsF_w4 : ∀ o, w4.frozen? ⟨w.heap.size + 1 + 1, o, none⟩ = false := fun o => (hb4.frozen rsL_W3).trans (rsF_W3 o)
  have rsL_w4 : w.heap.size + 1 + 1 < w4.heap.size := Nat.lt_of_lt_of_le rsL_W3 hb4.size
  have acc_w4 := hidP (acc_W3.out.trans (hb4.mono acc_W3.out.size))
  have sz_w4 : Hid (W3.heap.size ≤ w4.heap.size) := hidP hb4.size
  clear hb4 bk0_W3 bk1_W3 bk2_W3 bkF_W3 bkL_W3 at0_W3 at1_W3 at2_W3 atF_W3 atL_W3 rs0_W3 rs1_W3 rs2_W3 rsF_W3 rsL_W3 acc_W3
  have oL_w4 := hidP (og3'.out)
  have lhL : Hid (∀ k, (Value.slice a3 n c3).ownBlock = some k → W3.heap.size ≤ k ∧ k < w4.heap.size) := hidP (fun k hk => OwnG.lt oL_w4.out k hk)
  clear og3'
  go_wp2_with fail
  have bk0_W5 : (((w4.setCell ⟨w.heap.size, 0, none⟩ (.slice a3 n c3)).setCell ⟨w.heap.size, 1, none⟩ (.int .i64 T)).setCell ⟨w.heap.size, 2, none⟩ (.int .i64 N)).cell? ⟨w.heap.size, 0, none⟩ = some (.slice a3 n c3) := by simp [go_sem, bk0_w4]
  have bk1_W5 : (((w4.setCell ⟨w.heap.size, 0, none⟩ (.slice a3 n c3)).setCell ⟨w.heap.size, 1, none⟩ (.int .i64 T)).setCell ⟨w.heap.size, 2, none⟩ (.int .i64 N)).cell? ⟨w.heap.size, 1, none⟩ = some (.int .i64 T) := by simp [go_sem, bk1_w4]
  have bk2_W5 : (((w4.setCell ⟨w.heap.size, 0, none⟩ (.slice a3 n c3)).setCell ⟨w.heap.size, 1, none⟩ (.int .i64 T)).setCell ⟨w.heap.size, 2, none⟩ (.int .i64 N)).cell? ⟨w.heap.size, 2, none⟩ = some (.int .i64 N) := by simp [go_sem, bk2_w4]
  have bkF_W5 : ∀ o, (((w4.setCell ⟨w.heap.size, 0, none⟩ (.slice a3 n c3)).setCell ⟨w.heap.size, 1, none⟩ (.int .i64 T)).setCell ⟨w.heap.size, 2, none⟩ (.int .i64 N)).frozen? ⟨w.heap.size, o, none⟩ = false := fun o => frz_set1 (frz_set1 (frz_set1 ((bkF_w4 o))))
  have bkL_W5 : w.heap.size < (((w4.setCell ⟨w.heap.size, 0, none⟩ (.slice a3 n c3)).setCell ⟨w.heap.size, 1, none⟩ (.int .i64 T)).setCell ⟨w.heap.size, 2, none⟩ (.int .i64 N)).heap.size := by simpa using bkL_w4
  have at0_W5 : (((w4.setCell ⟨w.heap.size, 0, none⟩ (.slice a3 n c3)).setCell ⟨w.heap.size, 1, none⟩ (.int .i64 T)).setCell ⟨w.heap.size, 2, none⟩ (.int .i64 N)).cell? ⟨w.heap.size + 1, 0, none⟩ = some (.bool ad.s) := cell_set1 (cell_set1 (cell_set1 (at0_w4) (by have := as_W1.out; have := sz_W1.out; have := as_W2.out; have := sz_W2.out; have := as_W3.out; have := sz_W3.out; have := sz_w4.out; omega)) (by have := as_W1.out; have := sz_W1.out; have := as_W2.out; have := sz_W2.out; have := as_W3.out; have := sz_W3.out; have := sz_w4.out; omega)) (by have := as_W1.out; have := sz_W1.out; have := as_W2.out; have := sz_W2.out; have := as_W3.out; have := sz_W3.out; have := sz_w4.out; omega)
  have at1_W5 : (((w4.setCell ⟨w.heap.size, 0, none⟩ (.slice a3 n c3)).setCell ⟨w.heap.size, 1, none⟩ (.int .i64 T)).setCell ⟨w.heap.size, 2, none⟩ (.int .i64 N)).cell? ⟨w.heap.size + 1, 1, none⟩ = some (.int .i64 ad.H.toInt) := cell_set1 (cell_set1 (cell_set1 (at1_w4) (by have := as_W1.out; have := sz_W1.out; have := as_W2.out; have := sz_W2.out; have := as_W3.out; have := sz_W3.out; have := sz_w4.out; omega)) (by have := as_W1.out; have := sz_W1.out; have := as_W2.out; have := sz_W2.out; have := as_W3.out; have := sz_W3.out; have := sz_w4.out; omega)) (by have := as_W1.out; have := sz_W1.out; have := as_W2.out; have := sz_W2.out; have := as_W3.out; have := sz_W3.out; have := sz_w4.out; omega)
  have at2_W5 : (((w4.setCell ⟨w.heap.size, 0, none⟩ (.slice a3 n c3)).setCell ⟨w.heap.size, 1, none⟩ (.int .i64 T)).setCell ⟨w.heap.size, 2, none⟩ (.int .i64 N)).cell? ⟨w.heap.size + 1, 2, none⟩ = some (.int .i64 ad.L.toInt) := cell_set1 (cell_set1 (cell_set1 (at2_w4) (by have := as_W1.out; have := sz_W1.out; have := as_W2.out; have := sz_W2.out; have := as_W3.out; have := sz_W3.out; have := sz_w4.out; omega)) (by have := as_W1.out; have := sz_W1.out; have := as_W2.out; have := sz_W2.out; have := as_W3.out; have := sz_W3.out; have := sz_w4.out; omega)) (by have := as_W1.out; have := sz_W1.out; have := as_W2.out; have := sz_W2.out; have := as_W3.out; have := sz_W3.out; have := sz_w4.out; omega)
  have atF_W5 : ∀ o, (((w4.setCell ⟨w.heap.size, 0, none⟩ (.slice a3 n c3)).setCell ⟨w.heap.size, 1, none⟩ (.int .i64 T)).setCell ⟨w.heap.size, 2, none⟩ (.int .i64 N)).frozen? ⟨w.heap.size + 1, o, none⟩ = false := fun o => frz_set1 (frz_set1 (frz_set1 ((atF_w4 o))))
  have atL_W5 : w.heap.size + 1 < (((w4.setCell ⟨w.heap.size, 0, none⟩ (.slice a3 n c3)).setCell ⟨w.heap.size, 1, none⟩ (.int .i64 T)).setCell ⟨w.heap.size, 2, none⟩ (.int .i64 N)).heap.size := by simpa using atL_w4
  have rs0_W5 : (((w4.setCell ⟨w.heap.size, 0, none⟩ (.slice a3 n c3)).setCell ⟨w.heap.size, 1, none⟩ (.int .i64 T)).setCell ⟨w.heap.size, 2, none⟩ (.int .i64 N)).cell? ⟨w.heap.size + 1 + 1, 0, none⟩ = some (.slice none 0 0) := cell_set1 (cell_set1 (cell_set1 (rs0_w4) (by have := as_W1.out; have := sz_W1.out; have := as_W2.out; have := sz_W2.out; have := as_W3.out; have := sz_W3.out; have := sz_w4.out; omega)) (by have := as_W1.out; have := sz_W1.out; have := as_W2.out; have := sz_W2.out; have := as_W3.out; have := sz_W3.out; have := sz_w4.out; omega)) (by have := as_W1.out; have := sz_W1.out; have := as_W2.out; have := sz_W2.out; have := as_W3.out; have := sz_W3.out; have := sz_w4.out; omega)
  have rs1_W5 : (((w4.setCell ⟨w.heap.size, 0, none⟩ (.slice a3 n c3)).setCell ⟨w.heap.size, 1, none⟩ (.int .i64 T)).setCell ⟨w.heap.size, 2, none⟩ (.int .i64 N)).cell? ⟨w.heap.size + 1 + 1, 1, none⟩ = some (.int .i64 0) := cell_set1 (cell_set1 (cell_set1 (rs1_w4) (by have := as_W1.out; have := sz_W1.out; have := as_W2.out; have := sz_W2.out; have := as_W3.out; have := sz_W3.out; have := sz_w4.out; omega)) (by have := as_W1.out; have := sz_W1.out; have := as_W2.out; have := sz_W2.out; have := as_W3.out; have := sz_W3.out; have := sz_w4.out; omega)) (by have := as_W1.out; have := sz_W1.out; have := as_W2.out; have := sz_W2.out; have := as_W3.out; have := sz_W3.out; have := sz_w4.out; omega)
  have rs2_W5 : (((w4.setCell ⟨w.heap.size, 0, none⟩ (.slice a3 n c3)).setCell ⟨w.heap.size, 1, none⟩ (.int .i64 T)).setCell ⟨w.heap.size, 2, none⟩ (.int .i64 N)).cell? ⟨w.heap.size + 1 + 1, 2, none⟩ = some (.int .i64 0) := cell_set1 (cell_set1 (cell_set1 (rs2_w4) (by have := as_W1.out; have := sz_W1.out; have := as_W2.out; have := sz_W2.out; have := as_W3.out; have := sz_W3.out; have := sz_w4.out; omega)) (by have := as_W1.out; have := sz_W1.out; have := as_W2.out; have := sz_W2.out; have := as_W3.out; have := sz_W3.out; have := sz_w4.out; omega)) (by have := as_W1.out; have := sz_W1.out; have := as_W2.out; have := sz_W2.out; have := as_W3.out; have := sz_W3.out; have := sz_w4.out; omega)
  have rsF_W5 : ∀ o, (((w4.setCell ⟨w.heap.size, 0, none⟩ (.slice a3 n c3)).setCell ⟨w.heap.size, 1, none⟩ (.int .i64 T)).setCell ⟨w.heap.size, 2, none⟩ (.int .i64 N)).frozen? ⟨w.heap.size + 1 + 1, o, none⟩ = false := fun o => frz_set1 (frz_set1 (frz_set1 ((rsF_w4 o))))
  have rsL_W5 : w.heap.size + 1 + 1 < (((w4.setCell ⟨w.heap.size, 0, none⟩ (.slice a3 n c3)).setCell ⟨w.heap.size, 1, none⟩ (.int .i64 T)).setCell ⟨w.heap.size, 2, none⟩ (.int .i64 N)).heap.size := by simpa using rsL_w4
  have oL_W5 : Hid (OwnG KLs 35 (((w4.setCell ⟨w.heap.size, 0, none⟩ (.slice a3 n c3)).setCell ⟨w.heap.size, 1, none⟩ (.int .i64 T)).setCell ⟨w.heap.size, 2, none⟩ (.int .i64 N)) (W3.heap.size) (.slice a3 n c3) (ls)) := hidP (OwnG.grown (OwnG.grown (OwnG.grown (oL_w4.out) (grown_cellG _ _ _ _) (OwnG.ne_of oL_w4.out (by have := as_W1.out; have := sz_W1.out; have := as_W2.out; have := sz_W2.out; have := as_W3.out; have := sz_W3.out; have := sz_w4.out; omega))) (grown_cellG _ _ _ _) (OwnG.ne_of oL_w4.out (by have := as_W1.out; have := sz_W1.out; have := as_W2.out; have := sz_W2.out; have := as_W3.out; have := sz_W3.out; have := sz_w4.out; omega))) (grown_cellG _ _ _ _) (OwnG.ne_of oL_w4.out (by have := as_W1.out; have := sz_W1.out; have := as_W2.out; have := sz_W2.out; have := as_W3.out; have := sz_W3.out; have := sz_w4.out; omega)))
  have acc_W5 : Hid (Below w.heap.size w (((w4.setCell ⟨w.heap.size, 0, none⟩ (.slice a3 n c3)).setCell ⟨w.heap.size, 1, none⟩ (.int .i64 T)).setCell ⟨w.heap.size, 2, none⟩ (.int .i64 N))) := hidP (Below.setCell (Below.setCell (Below.setCell (acc_w4.out) (by have := as_W1.out; have := sz_W1.out; have := as_W2.out; have := sz_W2.out; have := as_W3.out; have := sz_W3.out; have := sz_w4.out; try dsimp only; omega) _) (by have := as_W1.out; have := sz_W1.out; have := as_W2.out; have := sz_W2.out; have := as_W3.out; have := sz_W3.out; have := sz_w4.out; try dsimp only; omega) _) (by have := as_W1.out; have := sz_W1.out; have := as_W2.out; have := sz_W2.out; have := as_W3.out; have := sz_W3.out; have := sz_w4.out; try dsimp only; omega) _)
  have sz_W5 : Hid ((((w4.setCell ⟨w.heap.size, 0, none⟩ (.slice a3 n c3)).setCell ⟨w.heap.size, 1, none⟩ (.int .i64 T)).setCell ⟨w.heap.size, 2, none⟩ (.int .i64 N)).heap.size = w4.heap.size) := hidP (by simp)
  generalize ((w4.setCell ⟨w.heap.size, 0, none⟩ (.slice a3 n c3)).setCell ⟨w.heap.size, 1, none⟩ (.int .i64 T)).setCell ⟨w.heap.size, 2, none⟩ (.int .i64 N) = W5 at *
  clear bk0_w4 bk1_w4 bk2_w4 bkF_w4 bkL_w4 at0_w4 at1_w4 at2_w4 atF_w4 atL_w4 rs0_w4 rs1_w4 rs2_w4 rsF_w4 rsL_w4 oL_w4 acc_w4
  refine (HPh.out _ a3 c3 oL_W5.out.row).mono ?_
  rintro e w6 ⟨rfl, hb6⟩
  have bk0_w6 := (hb6.cell bkL_W5).trans bk0_W5
  have bk1_w6 := (hb6.cell bkL_W5).trans bk1_W5
  have bk2_w6 := (hb6.cell bkL_W5).trans bk2_W5
  have bkF_w6 : ∀ o, w6.frozen? ⟨w.heap.size, o, none⟩ = false := fun o => (hb6.frozen bkL_W5).trans (bkF_W5 o)
  have bkL_w6 : w.heap.size < w6.heap.size := Nat.lt_of_lt_of_le bkL_W5 hb6.size
  have at0_w6 := (hb6.cell atL_W5).trans at0_W5
  have at1_w6 := (hb6.cell atL_W5).trans at1_W5
  have at2_w6 := (hb6.cell atL_W5).trans at2_W5
  have atF_w6 : ∀ o, w6.frozen? ⟨w.heap.size + 1, o, none⟩ = false := fun o => (hb6.frozen atL_W5).trans (atF_W5 o)
  have atL_w6 : w.heap.size + 1 < w6.heap.size := Nat.lt_of_lt_of_le atL_W5 hb6.size
  have rs0_w6 := (hb6.cell rsL_W5).trans rs0_W5
  have rs1_w6 := (hb6.cell rsL_W5).trans rs1_W5
  have rs2_w6 := (hb6.cell rsL_W5).trans rs2_W5
  have rsF_w6 : ∀ o, w6.frozen? ⟨w.heap.size + 1 + 1, o, none⟩ = false := fun o => (hb6.frozen rsL_W5).trans (rsF_W5 o)
  have rsL_w6 : w.heap.size + 1 + 1 < w6.heap.size := Nat.lt_of_lt_of_le rsL_W5 hb6.size
  have oL_w6 := hidP (OwnG.later oL_W5.out hb6)
  have acc_w6 := hidP (acc_W5.out.trans (hb6.mono acc_W5.out.size))
  have sz_w6 : Hid (W5.heap.size ≤ w6.heap.size) := hidP hb6.size
  clear hb6 bk0_W5 bk1_W5 bk2_W5 bkF_W5 bkL_W5 at0_W5 at1_W5 at2_W5 atF_W5 atL_W5 rs0_W5 rs1_W5 rs2_W5 rsF_W5 rsL_W5 oL_W5 acc_W5
  go_wp2_with fail
  obtain ⟨g3, rfl⟩ := own_some oL_w6.out (by omega)
  refine (delete_any g3 n c3 _ I ls w6 HN.out hI hl oL_w6.out).mono ?_
  rintro e w7 ⟨rfl, oD, hg7⟩
  have OD := hidP oD
  clear oD
  have nebk : ∀ k, (Value.slice (some ⟨g3, 0, none⟩) n c3).ownBlock = some k → k ≠ w.heap.size := fun k hk => by have h5 := lhL.out k hk; have := as_W1.out; have := sz_W1.out; have := as_W2.out; have := sz_W2.out; have := as_W3.out; have := sz_W3.out; have := sz_w4.out; have := sz_W5.out; have := sz_w6.out; omega
  have bk0_w7 := cell_grown hg7 bk0_w6 nebk
  have bk1_w7 := cell_grown hg7 bk1_w6 nebk
  have bk2_w7 := cell_grown hg7 bk2_w6 nebk
  have bkF_w7 : ∀ o, w7.frozen? ⟨w.heap.size, o, none⟩ = false := fun o => frz_grown hg7 bkL_w6 (bkF_w6 o) nebk
  have bkL_w7 : w.heap.size < w7.heap.size := Nat.lt_of_lt_of_le bkL_w6 hg7.size
  have neat : ∀ k, (Value.slice (some ⟨g3, 0, none⟩) n c3).ownBlock = some k → k ≠ w.heap.size + 1 := fun k hk => by have h5 := lhL.out k hk; have := as_W1.out; have := sz_W1.out; have := as_W2.out; have := sz_W2.out; have := as_W3.out; have := sz_W3.out; have := sz_w4.out; have := sz_W5.out; have := sz_w6.out; omega
  have at0_w7 := cell_grown hg7 at0_w6 neat
  have at1_w7 := cell_grown hg7 at1_w6 neat
  have at2_w7 := cell_grown hg7 at2_w6 neat
  have atF_w7 : ∀ o, w7.frozen? ⟨w.heap.size + 1, o, none⟩ = false := fun o => frz_grown hg7 atL_w6 (atF_w6 o) neat
  have atL_w7 : w.heap.size + 1 < w7.heap.size := Nat.lt_of_lt_of_le atL_w6 hg7.size
  have ners : ∀ k, (Value.slice (some ⟨g3, 0, none⟩) n c3).ownBlock = some k → k ≠ w.heap.size + 1 + 1 := fun k hk => by have h5 := lhL.out k hk; have := as_W1.out; have := sz_W1.out; have := as_W2.out; have := sz_W2.out; have := as_W3.out; have := sz_W3.out; have := sz_w4.out; have := sz_W5.out; have := sz_w6.out; omega
  have rs0_w7 := cell_grown hg7 rs0_w6 ners
  have rs1_w7 := cell_grown hg7 rs1_w6 ners
  have rs2_w7 := cell_grown hg7 rs2_w6 ners
  have rsF_w7 : ∀ o, w7.frozen? ⟨w.heap.size + 1 + 1, o, none⟩ = false := fun o => frz_grown hg7 rsL_w6 (rsF_w6 o) ners
  have rsL_w7 : w.heap.size + 1 + 1 < w7.heap.size := Nat.lt_of_lt_of_le rsL_w6 hg7.size
  have oL_w7 := hidP (OD.out)
  have acc_w7 := hidP (Below.grown acc_w6.out hg7 acc_w6.out.size (fun k hk => by have h5 := lhL.out k hk; have := as_W1.out; have := sz_W1.out; have := as_W2.out; have := sz_W2.out; have := as_W3.out; have := sz_W3.out; have := sz_w4.out; have := sz_W5.out; have := sz_w6.out; omega))
  have sz_w7 : Hid (w6.heap.size ≤ w7.heap.size) := hidP hg7.size
  clear hg7 bk0_w6 bk1_w6 bk2_w6 bkF_w6 bkL_w6 nebk at0_w6 at1_w6 at2_w6 atF_w6 atL_w6 neat rs0_w6 rs1_w6 rs2_w6 rsF_w6 rsL_w6 ners oL_w6 acc_w6
  clear OD
  go_wp2_with fail
  refine bodyPost_ret (v := .tuple #[.agg #[.slice (some ⟨g3, 0, none⟩) (n - 1) c3, .int .i64 T, .int .i64 N], .int .i64 0]) (by simp [results, Tryz.results12, go_sem, rs0_w7, rs1_w7, rs2_w7]) rfl ⟨_, _, rfl, ?_, ?_⟩
  · refine OwnG.mono (B := W3.heap.size) ?_ (by have := as_W1.out; have := sz_W1.out; have := as_W2.out; have := sz_W2.out; have := as_W3.out; have := sz_W3.out; have := sz_w4.out; have := sz_W5.out; have := sz_w6.out; have := sz_w7.out; omega)
    iterate 4 (with_reducible refine OwnG.grown ?_ (grown_cellG _ _ _ _) ?_; rotate_left; (focus (exact OwnG.ne_of oL_w7.out (by have := as_W1.out; have := sz_W1.out; have := as_W2.out; have := sz_W2.out; have := as_W3.out; have := sz_W3.out; have := sz_w4.out; have := sz_W5.out; have := sz_w6.out; have := sz_w7.out; omega))))
    with_reducible exact oL_w7.out
  · repeat (with_reducible refine Below.setCell ?_ ?_ _; rotate_left; (focus (first | (simp; done) | (simp; omega))))
    exact acc_w7.out

end Go.Proofs.YtddnofonodgneaaGreatDoor
