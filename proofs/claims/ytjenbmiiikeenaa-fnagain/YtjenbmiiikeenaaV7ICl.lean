/-
  The program's CloseSession.
-/
import Derived.Test.YtjenbmiiikeenaaV7Del
namespace Go.Proofs.Ytjenbmiiikeenaa
open Go.RowKit

theorem ses_one {N p : Int} {ls : List Ss} (h : sesF N p ls = true) : ∀ (i j : Nat) (q r : Ss), i < j → ls[i]? = some q → ls[j]? = some r → q.i < r.i := by
  induction ls generalizing p with
  | nil => intro i j q r _ h; simp at h
  | cons x t ih =>
    simp only [sesF, Bool.and_eq_true, decide_eq_true_eq] at h
    obtain ⟨⟨⟨h1, h2⟩, h3⟩, h4⟩ := h
    intro i j q r hij hi hj
    cases j with
    | zero => omega
    | succ j =>
      rw [List.getElem?_cons_succ] at hj
      cases i with
      | zero => rw [List.getElem?_cons_zero] at hi; cases hi; exact (sesF_mem h4 r (List.mem_of_getElem? hj)).2.2
      | succ i => rw [List.getElem?_cons_succ] at hi; exact ih h4 i j q r (by omega) hi hj
theorem box1D (w : World) (t : TypeId) (u : Value) : (w.alloc (.cells #[u] t)).cell? ⟨w.heap.size, 0, none⟩ = some u := by simp [go_sem]

set_option maxRecDepth 10000 in
set_option maxHeartbeats 4000000 in
theorem iCl_form (a : Option Addr) (n c : Nat) (N : Int) (ls : List Ss) (w : World) (hn : n = ls.length) (hB : RowG KSs w a ls) (hl : n ≤ 1048576) (id : Int) (hr : dkB ls N = false) :
    Calls Try.prog 12 #[.agg #[.slice a n c, .int .i64 N], .int .i64 id] w fun e w' => ∃ a' c', e = .returned (.tuple #[.agg #[.slice a' n c', .int .i64 N], .bool false]) ∧ OwnG KSs 39 w' w.heap.size (.slice a' n c') (ls) ∧ Below w.heap.size w w' := by
  have HOw := hidP (fun W h => ownDesk_any a n c N ls W hn (hB.later h) hl)
  have HS := hidP (fun W b a c b0 b1 e1 => session_form b a n c N ls W hn e1 hl b0 b1 id hr)
  clear hB hn
  go_enter Try.func12, Try.ntmps12
  go_wp2_with fail
  obtain ⟨bk0_W1, bk1_W1⟩ := box2D w 26 (.slice a n c) (.int .i64 N)
  have bkF_W1 : ∀ o, (w.alloc (.cells #[.slice a n c, .int .i64 N] 26)).frozen? ⟨w.heap.size, o, none⟩ = false := fun o => by simp [go_sem]
  have bkL_W1 : w.heap.size < (w.alloc (.cells #[.slice a n c, .int .i64 N] 26)).heap.size := by simp
  have ab_W1 := alloc_below w (.cells #[.slice a n c, .int .i64 N] 26)
  have as_W1 : Hid ((w.alloc (.cells #[.slice a n c, .int .i64 N] 26)).heap.size = w.heap.size + 1) := hidP (by simp)
  generalize w.alloc (.cells #[.slice a n c, .int .i64 N] 26) = W1 at *
  have acc_W1 := hidP (ab_W1)
  have sz_W1 : Hid (w.heap.size ≤ W1.heap.size) := hidP ab_W1.size
  clear ab_W1 
  have ix0_W2 := box1D W1 3 (.int .i64 id)
  have ixF_W2 : ∀ o, (W1.alloc (.cells #[.int .i64 id] 3)).frozen? ⟨W1.heap.size, o, none⟩ = false := fun o => by simp [go_sem]
  have ixL_W2 : W1.heap.size < (W1.alloc (.cells #[.int .i64 id] 3)).heap.size := by simp
  have ab_W2 := alloc_below W1 (.cells #[.int .i64 id] 3)
  have as_W2 : Hid ((W1.alloc (.cells #[.int .i64 id] 3)).heap.size = W1.heap.size + 1) := hidP (by simp)
  generalize W1.alloc (.cells #[.int .i64 id] 3) = W2 at *
  have bk0_W2 := (ab_W2.cell bkL_W1).trans bk0_W1
  have bk1_W2 := (ab_W2.cell bkL_W1).trans bk1_W1
  have bkF_W2 : ∀ o, W2.frozen? ⟨w.heap.size, o, none⟩ = false := fun o => (ab_W2.frozen bkL_W1).trans (bkF_W1 o)
  have bkL_W2 : w.heap.size < W2.heap.size := Nat.lt_of_lt_of_le bkL_W1 ab_W2.size
  have acc_W2 := hidP (acc_W1.out.trans (ab_W2.mono acc_W1.out.size))
  have sz_W2 : Hid (W1.heap.size ≤ W2.heap.size) := hidP ab_W2.size
  clear ab_W2 bk0_W1 bk1_W1 bkF_W1 bkL_W1 acc_W1
  rw [as_W1.out] at ix0_W2 ixL_W2
  have ixF_W2' : ∀ o, W2.frozen? ⟨w.heap.size + 1, o, none⟩ = false := fun o => by have := ixF_W2 o; rw [as_W1.out] at this; exact this
  clear ixF_W2
  have ixF_W2 := ixF_W2'
  clear ixF_W2'
  obtain ⟨rs0_W3, rs1_W3⟩ := box2D W2 26 (.slice none 0 0) (.int .i64 0)
  have rsF_W3 : ∀ o, (W2.alloc (.cells #[.slice none 0 0, .int .i64 0] 26)).frozen? ⟨W2.heap.size, o, none⟩ = false := fun o => by simp [go_sem]
  have rsL_W3 : W2.heap.size < (W2.alloc (.cells #[.slice none 0 0, .int .i64 0] 26)).heap.size := by simp
  have ab_W3 := alloc_below W2 (.cells #[.slice none 0 0, .int .i64 0] 26)
  have as_W3 : Hid ((W2.alloc (.cells #[.slice none 0 0, .int .i64 0] 26)).heap.size = W2.heap.size + 1) := hidP (by simp)
  generalize W2.alloc (.cells #[.slice none 0 0, .int .i64 0] 26) = W3 at *
  have bk0_W3 := (ab_W3.cell bkL_W2).trans bk0_W2
  have bk1_W3 := (ab_W3.cell bkL_W2).trans bk1_W2
  have bkF_W3 : ∀ o, W3.frozen? ⟨w.heap.size, o, none⟩ = false := fun o => (ab_W3.frozen bkL_W2).trans (bkF_W2 o)
  have bkL_W3 : w.heap.size < W3.heap.size := Nat.lt_of_lt_of_le bkL_W2 ab_W3.size
  have ix0_W3 := (ab_W3.cell ixL_W2).trans ix0_W2
  have ixF_W3 : ∀ o, W3.frozen? ⟨w.heap.size + 1, o, none⟩ = false := fun o => (ab_W3.frozen ixL_W2).trans (ixF_W2 o)
  have ixL_W3 : w.heap.size + 1 < W3.heap.size := Nat.lt_of_lt_of_le ixL_W2 ab_W3.size
  have acc_W3 := hidP (acc_W2.out.trans (ab_W3.mono acc_W2.out.size))
  have sz_W3 : Hid (W2.heap.size ≤ W3.heap.size) := hidP ab_W3.size
  clear ab_W3 bk0_W2 bk1_W2 bkF_W2 bkL_W2 ix0_W2 ixF_W2 ixL_W2 acc_W2
  rw [as_W2.out, as_W1.out] at rs0_W3 rs1_W3 rsL_W3
  have rsF_W3' : ∀ o, W3.frozen? ⟨w.heap.size + 1 + 1, o, none⟩ = false := fun o => by have := rsF_W3 o; rw [as_W2.out, as_W1.out] at this; exact this
  clear rsF_W3
  have rsF_W3 := rsF_W3'
  clear rsF_W3'
  refine (HOw.out _ acc_W3.out).mono ?_
  rintro e w3 ⟨a3, c3, rfl, og3, hb3⟩
  have OG := hidP og3
  clear og3
  have bk0_w3 := (hb3.cell bkL_W3).trans bk0_W3
  have bk1_w3 := (hb3.cell bkL_W3).trans bk1_W3
  have bkF_w3 : ∀ o, w3.frozen? ⟨w.heap.size, o, none⟩ = false := fun o => (hb3.frozen bkL_W3).trans (bkF_W3 o)
  have bkL_w3 : w.heap.size < w3.heap.size := Nat.lt_of_lt_of_le bkL_W3 hb3.size
  have ix0_w3 := (hb3.cell ixL_W3).trans ix0_W3
  have ixF_w3 : ∀ o, w3.frozen? ⟨w.heap.size + 1, o, none⟩ = false := fun o => (hb3.frozen ixL_W3).trans (ixF_W3 o)
  have ixL_w3 : w.heap.size + 1 < w3.heap.size := Nat.lt_of_lt_of_le ixL_W3 hb3.size
  have rs0_w3 := (hb3.cell rsL_W3).trans rs0_W3
  have rs1_w3 := (hb3.cell rsL_W3).trans rs1_W3
  have rsF_w3 : ∀ o, w3.frozen? ⟨w.heap.size + 1 + 1, o, none⟩ = false := fun o => (hb3.frozen rsL_W3).trans (rsF_W3 o)
  have rsL_w3 : w.heap.size + 1 + 1 < w3.heap.size := Nat.lt_of_lt_of_le rsL_W3 hb3.size
  have acc_w3 := hidP (acc_W3.out.trans (hb3.mono acc_W3.out.size))
  have sz_w3 : Hid (W3.heap.size ≤ w3.heap.size) := hidP hb3.size
  clear hb3 bk0_W3 bk1_W3 bkF_W3 bkL_W3 ix0_W3 ixF_W3 ixL_W3 rs0_W3 rs1_W3 rsF_W3 rsL_W3 acc_W3
  have oL_w3 := hidP (OG.out)
  have lhL : Hid (∀ k, (Value.slice a3 n c3).ownBlock = some k → W3.heap.size ≤ k ∧ k < w3.heap.size) := hidP (fun k hk => OwnG.lt oL_w3.out k hk)
  clear OG
  go_wp2_with fail
  have bk0_W4 : ((w3.setCell ⟨w.heap.size, 0, none⟩ (.slice a3 n c3)).setCell ⟨w.heap.size, 1, none⟩ (.int .i64 N)).cell? ⟨w.heap.size, 0, none⟩ = some (.slice a3 n c3) := by simp [go_sem, bk0_w3]
  have bk1_W4 : ((w3.setCell ⟨w.heap.size, 0, none⟩ (.slice a3 n c3)).setCell ⟨w.heap.size, 1, none⟩ (.int .i64 N)).cell? ⟨w.heap.size, 1, none⟩ = some (.int .i64 N) := by simp [go_sem, bk1_w3]
  have bkF_W4 : ∀ o, ((w3.setCell ⟨w.heap.size, 0, none⟩ (.slice a3 n c3)).setCell ⟨w.heap.size, 1, none⟩ (.int .i64 N)).frozen? ⟨w.heap.size, o, none⟩ = false := fun o => frz_set1 (frz_set1 ((bkF_w3 o)))
  have bkL_W4 : w.heap.size < ((w3.setCell ⟨w.heap.size, 0, none⟩ (.slice a3 n c3)).setCell ⟨w.heap.size, 1, none⟩ (.int .i64 N)).heap.size := by simpa using bkL_w3
  have ix0_W4 : ((w3.setCell ⟨w.heap.size, 0, none⟩ (.slice a3 n c3)).setCell ⟨w.heap.size, 1, none⟩ (.int .i64 N)).cell? ⟨w.heap.size + 1, 0, none⟩ = some (.int .i64 id) := cell_set1 (cell_set1 (ix0_w3) (by have := as_W1.out; have := sz_W1.out; have := as_W2.out; have := sz_W2.out; have := as_W3.out; have := sz_W3.out; have := sz_w3.out; omega)) (by have := as_W1.out; have := sz_W1.out; have := as_W2.out; have := sz_W2.out; have := as_W3.out; have := sz_W3.out; have := sz_w3.out; omega)
  have ixF_W4 : ∀ o, ((w3.setCell ⟨w.heap.size, 0, none⟩ (.slice a3 n c3)).setCell ⟨w.heap.size, 1, none⟩ (.int .i64 N)).frozen? ⟨w.heap.size + 1, o, none⟩ = false := fun o => frz_set1 (frz_set1 ((ixF_w3 o)))
  have ixL_W4 : w.heap.size + 1 < ((w3.setCell ⟨w.heap.size, 0, none⟩ (.slice a3 n c3)).setCell ⟨w.heap.size, 1, none⟩ (.int .i64 N)).heap.size := by simpa using ixL_w3
  have rs0_W4 : ((w3.setCell ⟨w.heap.size, 0, none⟩ (.slice a3 n c3)).setCell ⟨w.heap.size, 1, none⟩ (.int .i64 N)).cell? ⟨w.heap.size + 1 + 1, 0, none⟩ = some (.slice none 0 0) := cell_set1 (cell_set1 (rs0_w3) (by have := as_W1.out; have := sz_W1.out; have := as_W2.out; have := sz_W2.out; have := as_W3.out; have := sz_W3.out; have := sz_w3.out; omega)) (by have := as_W1.out; have := sz_W1.out; have := as_W2.out; have := sz_W2.out; have := as_W3.out; have := sz_W3.out; have := sz_w3.out; omega)
  have rs1_W4 : ((w3.setCell ⟨w.heap.size, 0, none⟩ (.slice a3 n c3)).setCell ⟨w.heap.size, 1, none⟩ (.int .i64 N)).cell? ⟨w.heap.size + 1 + 1, 1, none⟩ = some (.int .i64 0) := cell_set1 (cell_set1 (rs1_w3) (by have := as_W1.out; have := sz_W1.out; have := as_W2.out; have := sz_W2.out; have := as_W3.out; have := sz_W3.out; have := sz_w3.out; omega)) (by have := as_W1.out; have := sz_W1.out; have := as_W2.out; have := sz_W2.out; have := as_W3.out; have := sz_W3.out; have := sz_w3.out; omega)
  have rsF_W4 : ∀ o, ((w3.setCell ⟨w.heap.size, 0, none⟩ (.slice a3 n c3)).setCell ⟨w.heap.size, 1, none⟩ (.int .i64 N)).frozen? ⟨w.heap.size + 1 + 1, o, none⟩ = false := fun o => frz_set1 (frz_set1 ((rsF_w3 o)))
  have rsL_W4 : w.heap.size + 1 + 1 < ((w3.setCell ⟨w.heap.size, 0, none⟩ (.slice a3 n c3)).setCell ⟨w.heap.size, 1, none⟩ (.int .i64 N)).heap.size := by simpa using rsL_w3
  have oL_W4 : Hid (OwnG KSs 39 ((w3.setCell ⟨w.heap.size, 0, none⟩ (.slice a3 n c3)).setCell ⟨w.heap.size, 1, none⟩ (.int .i64 N)) (W3.heap.size) (.slice a3 n c3) (ls)) := hidP (OwnG.grown (OwnG.grown (oL_w3.out) (grown_cellG _ _ _ _) (OwnG.ne_of oL_w3.out (by have := as_W1.out; have := sz_W1.out; have := as_W2.out; have := sz_W2.out; have := as_W3.out; have := sz_W3.out; have := sz_w3.out; omega))) (grown_cellG _ _ _ _) (OwnG.ne_of oL_w3.out (by have := as_W1.out; have := sz_W1.out; have := as_W2.out; have := sz_W2.out; have := as_W3.out; have := sz_W3.out; have := sz_w3.out; omega)))
  have acc_W4 : Hid (Below w.heap.size w ((w3.setCell ⟨w.heap.size, 0, none⟩ (.slice a3 n c3)).setCell ⟨w.heap.size, 1, none⟩ (.int .i64 N))) := hidP (Below.setCell (Below.setCell (acc_w3.out) (by have := as_W1.out; have := sz_W1.out; have := as_W2.out; have := sz_W2.out; have := as_W3.out; have := sz_W3.out; have := sz_w3.out; try dsimp only; omega) _) (by have := as_W1.out; have := sz_W1.out; have := as_W2.out; have := sz_W2.out; have := as_W3.out; have := sz_W3.out; have := sz_w3.out; try dsimp only; omega) _)
  have sz_W4 : Hid (((w3.setCell ⟨w.heap.size, 0, none⟩ (.slice a3 n c3)).setCell ⟨w.heap.size, 1, none⟩ (.int .i64 N)).heap.size = w3.heap.size) := hidP (by simp)
  generalize (w3.setCell ⟨w.heap.size, 0, none⟩ (.slice a3 n c3)).setCell ⟨w.heap.size, 1, none⟩ (.int .i64 N) = W4 at *
  clear bk0_w3 bk1_w3 bkF_w3 bkL_w3 ix0_w3 ixF_w3 ixL_w3 rs0_w3 rs1_w3 rsF_w3 rsL_w3 oL_w3 acc_w3
  refine (HS.out _ _ a3 c3 bk0_W4 bk1_W4 oL_W4.out.row).mono ?_
  rintro e w5 ⟨rfl, hb5⟩
  have bk0_w5 := (hb5.cell bkL_W4).trans bk0_W4
  have bk1_w5 := (hb5.cell bkL_W4).trans bk1_W4
  have bkF_w5 : ∀ o, w5.frozen? ⟨w.heap.size, o, none⟩ = false := fun o => (hb5.frozen bkL_W4).trans (bkF_W4 o)
  have bkL_w5 : w.heap.size < w5.heap.size := Nat.lt_of_lt_of_le bkL_W4 hb5.size
  have ix0_w5 := (hb5.cell ixL_W4).trans ix0_W4
  have ixF_w5 : ∀ o, w5.frozen? ⟨w.heap.size + 1, o, none⟩ = false := fun o => (hb5.frozen ixL_W4).trans (ixF_W4 o)
  have ixL_w5 : w.heap.size + 1 < w5.heap.size := Nat.lt_of_lt_of_le ixL_W4 hb5.size
  have rs0_w5 := (hb5.cell rsL_W4).trans rs0_W4
  have rs1_w5 := (hb5.cell rsL_W4).trans rs1_W4
  have rsF_w5 : ∀ o, w5.frozen? ⟨w.heap.size + 1 + 1, o, none⟩ = false := fun o => (hb5.frozen rsL_W4).trans (rsF_W4 o)
  have rsL_w5 : w.heap.size + 1 + 1 < w5.heap.size := Nat.lt_of_lt_of_le rsL_W4 hb5.size
  have oL_w5 := hidP (OwnG.later oL_W4.out hb5)
  have acc_w5 := hidP (acc_W4.out.trans (hb5.mono acc_W4.out.size))
  have sz_w5 : Hid (W4.heap.size ≤ w5.heap.size) := hidP hb5.size
  clear hb5 bk0_W4 bk1_W4 bkF_W4 bkL_W4 ix0_W4 ixF_W4 ixL_W4 rs0_W4 rs1_W4 rsF_W4 rsL_W4 oL_W4 acc_W4
  go_wp2_with fail
  refine bodyPost_ret (v := .tuple #[.agg #[.slice a3 n c3, .int .i64 N], .bool false]) (by simp [results, Try.results12, go_sem, rs0_w5, rs1_w5]) rfl ⟨_, _, rfl, ?_, ?_⟩
  · refine OwnG.mono (B := W3.heap.size) ?_ (by have := as_W1.out; have := sz_W1.out; have := as_W2.out; have := sz_W2.out; have := as_W3.out; have := sz_W3.out; have := sz_w3.out; have := sz_W4.out; have := sz_w5.out; omega)
    iterate 2 (with_reducible refine OwnG.grown ?_ (grown_cellG _ _ _ _) ?_; rotate_left; (focus (first | exact OwnG.ne_of oL_w5.out (by have := as_W1.out; have := sz_W1.out; have := as_W2.out; have := sz_W2.out; have := as_W3.out; have := sz_W3.out; have := sz_w3.out; have := sz_W4.out; have := sz_w5.out; omega))))
    with_reducible exact oL_w5.out
  · repeat (with_reducible refine Below.setCell ?_ ?_ _; rotate_left; (focus (first | (simp; done) | (simp; omega) | (dsimp only; have := as_W1.out; have := sz_W1.out; have := as_W2.out; have := sz_W2.out; have := as_W3.out; have := sz_W3.out; have := sz_w3.out; have := sz_W4.out; have := sz_w5.out; omega))))
    exact acc_w5.out

set_option maxRecDepth 10000 in
set_option maxHeartbeats 4000000 in
theorem iCl_none (a : Option Addr) (n c : Nat) (N : Int) (ls : List Ss) (w : World) (hn : n = ls.length) (hB : RowG KSs w a ls) (hl : n ≤ 1048576) (id : Int) (hr : dkB ls N = true) (hf : findS id ls = none) :
    Calls Try.prog 12 #[.agg #[.slice a n c, .int .i64 N], .int .i64 id] w fun e w' => ∃ a' c', e = .returned (.tuple #[.agg #[.slice a' n c', .int .i64 N], .bool false]) ∧ OwnG KSs 39 w' w.heap.size (.slice a' n c') (ls) ∧ Below w.heap.size w w' := by
  have HOw := hidP (fun W h => ownDesk_any a n c N ls W hn (hB.later h) hl)
  have HS := hidP (fun W b a c (bL : b < W.heap.size) b0 b1 e1 => session_none b a n c N ls W hn e1 hl bL b0 b1 id hr hf)
  clear hB hn
  go_enter Try.func12, Try.ntmps12
  go_wp2_with fail
  obtain ⟨bk0_W1, bk1_W1⟩ := box2D w 26 (.slice a n c) (.int .i64 N)
  have bkF_W1 : ∀ o, (w.alloc (.cells #[.slice a n c, .int .i64 N] 26)).frozen? ⟨w.heap.size, o, none⟩ = false := fun o => by simp [go_sem]
  have bkL_W1 : w.heap.size < (w.alloc (.cells #[.slice a n c, .int .i64 N] 26)).heap.size := by simp
  have ab_W1 := alloc_below w (.cells #[.slice a n c, .int .i64 N] 26)
  have as_W1 : Hid ((w.alloc (.cells #[.slice a n c, .int .i64 N] 26)).heap.size = w.heap.size + 1) := hidP (by simp)
  generalize w.alloc (.cells #[.slice a n c, .int .i64 N] 26) = W1 at *
  have acc_W1 := hidP (ab_W1)
  have sz_W1 : Hid (w.heap.size ≤ W1.heap.size) := hidP ab_W1.size
  clear ab_W1 
  have ix0_W2 := box1D W1 3 (.int .i64 id)
  have ixF_W2 : ∀ o, (W1.alloc (.cells #[.int .i64 id] 3)).frozen? ⟨W1.heap.size, o, none⟩ = false := fun o => by simp [go_sem]
  have ixL_W2 : W1.heap.size < (W1.alloc (.cells #[.int .i64 id] 3)).heap.size := by simp
  have ab_W2 := alloc_below W1 (.cells #[.int .i64 id] 3)
  have as_W2 : Hid ((W1.alloc (.cells #[.int .i64 id] 3)).heap.size = W1.heap.size + 1) := hidP (by simp)
  generalize W1.alloc (.cells #[.int .i64 id] 3) = W2 at *
  have bk0_W2 := (ab_W2.cell bkL_W1).trans bk0_W1
  have bk1_W2 := (ab_W2.cell bkL_W1).trans bk1_W1
  have bkF_W2 : ∀ o, W2.frozen? ⟨w.heap.size, o, none⟩ = false := fun o => (ab_W2.frozen bkL_W1).trans (bkF_W1 o)
  have bkL_W2 : w.heap.size < W2.heap.size := Nat.lt_of_lt_of_le bkL_W1 ab_W2.size
  have acc_W2 := hidP (acc_W1.out.trans (ab_W2.mono acc_W1.out.size))
  have sz_W2 : Hid (W1.heap.size ≤ W2.heap.size) := hidP ab_W2.size
  clear ab_W2 bk0_W1 bk1_W1 bkF_W1 bkL_W1 acc_W1
  rw [as_W1.out] at ix0_W2 ixL_W2
  have ixF_W2' : ∀ o, W2.frozen? ⟨w.heap.size + 1, o, none⟩ = false := fun o => by have := ixF_W2 o; rw [as_W1.out] at this; exact this
  clear ixF_W2
  have ixF_W2 := ixF_W2'
  clear ixF_W2'
  obtain ⟨rs0_W3, rs1_W3⟩ := box2D W2 26 (.slice none 0 0) (.int .i64 0)
  have rsF_W3 : ∀ o, (W2.alloc (.cells #[.slice none 0 0, .int .i64 0] 26)).frozen? ⟨W2.heap.size, o, none⟩ = false := fun o => by simp [go_sem]
  have rsL_W3 : W2.heap.size < (W2.alloc (.cells #[.slice none 0 0, .int .i64 0] 26)).heap.size := by simp
  have ab_W3 := alloc_below W2 (.cells #[.slice none 0 0, .int .i64 0] 26)
  have as_W3 : Hid ((W2.alloc (.cells #[.slice none 0 0, .int .i64 0] 26)).heap.size = W2.heap.size + 1) := hidP (by simp)
  generalize W2.alloc (.cells #[.slice none 0 0, .int .i64 0] 26) = W3 at *
  have bk0_W3 := (ab_W3.cell bkL_W2).trans bk0_W2
  have bk1_W3 := (ab_W3.cell bkL_W2).trans bk1_W2
  have bkF_W3 : ∀ o, W3.frozen? ⟨w.heap.size, o, none⟩ = false := fun o => (ab_W3.frozen bkL_W2).trans (bkF_W2 o)
  have bkL_W3 : w.heap.size < W3.heap.size := Nat.lt_of_lt_of_le bkL_W2 ab_W3.size
  have ix0_W3 := (ab_W3.cell ixL_W2).trans ix0_W2
  have ixF_W3 : ∀ o, W3.frozen? ⟨w.heap.size + 1, o, none⟩ = false := fun o => (ab_W3.frozen ixL_W2).trans (ixF_W2 o)
  have ixL_W3 : w.heap.size + 1 < W3.heap.size := Nat.lt_of_lt_of_le ixL_W2 ab_W3.size
  have acc_W3 := hidP (acc_W2.out.trans (ab_W3.mono acc_W2.out.size))
  have sz_W3 : Hid (W2.heap.size ≤ W3.heap.size) := hidP ab_W3.size
  clear ab_W3 bk0_W2 bk1_W2 bkF_W2 bkL_W2 ix0_W2 ixF_W2 ixL_W2 acc_W2
  rw [as_W2.out, as_W1.out] at rs0_W3 rs1_W3 rsL_W3
  have rsF_W3' : ∀ o, W3.frozen? ⟨w.heap.size + 1 + 1, o, none⟩ = false := fun o => by have := rsF_W3 o; rw [as_W2.out, as_W1.out] at this; exact this
  clear rsF_W3
  have rsF_W3 := rsF_W3'
  clear rsF_W3'
  refine (HOw.out _ acc_W3.out).mono ?_
  rintro e w3 ⟨a3, c3, rfl, og3, hb3⟩
  have OG := hidP og3
  clear og3
  have bk0_w3 := (hb3.cell bkL_W3).trans bk0_W3
  have bk1_w3 := (hb3.cell bkL_W3).trans bk1_W3
  have bkF_w3 : ∀ o, w3.frozen? ⟨w.heap.size, o, none⟩ = false := fun o => (hb3.frozen bkL_W3).trans (bkF_W3 o)
  have bkL_w3 : w.heap.size < w3.heap.size := Nat.lt_of_lt_of_le bkL_W3 hb3.size
  have ix0_w3 := (hb3.cell ixL_W3).trans ix0_W3
  have ixF_w3 : ∀ o, w3.frozen? ⟨w.heap.size + 1, o, none⟩ = false := fun o => (hb3.frozen ixL_W3).trans (ixF_W3 o)
  have ixL_w3 : w.heap.size + 1 < w3.heap.size := Nat.lt_of_lt_of_le ixL_W3 hb3.size
  have rs0_w3 := (hb3.cell rsL_W3).trans rs0_W3
  have rs1_w3 := (hb3.cell rsL_W3).trans rs1_W3
  have rsF_w3 : ∀ o, w3.frozen? ⟨w.heap.size + 1 + 1, o, none⟩ = false := fun o => (hb3.frozen rsL_W3).trans (rsF_W3 o)
  have rsL_w3 : w.heap.size + 1 + 1 < w3.heap.size := Nat.lt_of_lt_of_le rsL_W3 hb3.size
  have acc_w3 := hidP (acc_W3.out.trans (hb3.mono acc_W3.out.size))
  have sz_w3 : Hid (W3.heap.size ≤ w3.heap.size) := hidP hb3.size
  clear hb3 bk0_W3 bk1_W3 bkF_W3 bkL_W3 ix0_W3 ixF_W3 ixL_W3 rs0_W3 rs1_W3 rsF_W3 rsL_W3 acc_W3
  have oL_w3 := hidP (OG.out)
  have lhL : Hid (∀ k, (Value.slice a3 n c3).ownBlock = some k → W3.heap.size ≤ k ∧ k < w3.heap.size) := hidP (fun k hk => OwnG.lt oL_w3.out k hk)
  clear OG
  go_wp2_with fail
  have bk0_W4 : ((w3.setCell ⟨w.heap.size, 0, none⟩ (.slice a3 n c3)).setCell ⟨w.heap.size, 1, none⟩ (.int .i64 N)).cell? ⟨w.heap.size, 0, none⟩ = some (.slice a3 n c3) := by simp [go_sem, bk0_w3]
  have bk1_W4 : ((w3.setCell ⟨w.heap.size, 0, none⟩ (.slice a3 n c3)).setCell ⟨w.heap.size, 1, none⟩ (.int .i64 N)).cell? ⟨w.heap.size, 1, none⟩ = some (.int .i64 N) := by simp [go_sem, bk1_w3]
  have bkF_W4 : ∀ o, ((w3.setCell ⟨w.heap.size, 0, none⟩ (.slice a3 n c3)).setCell ⟨w.heap.size, 1, none⟩ (.int .i64 N)).frozen? ⟨w.heap.size, o, none⟩ = false := fun o => frz_set1 (frz_set1 ((bkF_w3 o)))
  have bkL_W4 : w.heap.size < ((w3.setCell ⟨w.heap.size, 0, none⟩ (.slice a3 n c3)).setCell ⟨w.heap.size, 1, none⟩ (.int .i64 N)).heap.size := by simpa using bkL_w3
  have ix0_W4 : ((w3.setCell ⟨w.heap.size, 0, none⟩ (.slice a3 n c3)).setCell ⟨w.heap.size, 1, none⟩ (.int .i64 N)).cell? ⟨w.heap.size + 1, 0, none⟩ = some (.int .i64 id) := cell_set1 (cell_set1 (ix0_w3) (by have := as_W1.out; have := sz_W1.out; have := as_W2.out; have := sz_W2.out; have := as_W3.out; have := sz_W3.out; have := sz_w3.out; omega)) (by have := as_W1.out; have := sz_W1.out; have := as_W2.out; have := sz_W2.out; have := as_W3.out; have := sz_W3.out; have := sz_w3.out; omega)
  have ixF_W4 : ∀ o, ((w3.setCell ⟨w.heap.size, 0, none⟩ (.slice a3 n c3)).setCell ⟨w.heap.size, 1, none⟩ (.int .i64 N)).frozen? ⟨w.heap.size + 1, o, none⟩ = false := fun o => frz_set1 (frz_set1 ((ixF_w3 o)))
  have ixL_W4 : w.heap.size + 1 < ((w3.setCell ⟨w.heap.size, 0, none⟩ (.slice a3 n c3)).setCell ⟨w.heap.size, 1, none⟩ (.int .i64 N)).heap.size := by simpa using ixL_w3
  have rs0_W4 : ((w3.setCell ⟨w.heap.size, 0, none⟩ (.slice a3 n c3)).setCell ⟨w.heap.size, 1, none⟩ (.int .i64 N)).cell? ⟨w.heap.size + 1 + 1, 0, none⟩ = some (.slice none 0 0) := cell_set1 (cell_set1 (rs0_w3) (by have := as_W1.out; have := sz_W1.out; have := as_W2.out; have := sz_W2.out; have := as_W3.out; have := sz_W3.out; have := sz_w3.out; omega)) (by have := as_W1.out; have := sz_W1.out; have := as_W2.out; have := sz_W2.out; have := as_W3.out; have := sz_W3.out; have := sz_w3.out; omega)
  have rs1_W4 : ((w3.setCell ⟨w.heap.size, 0, none⟩ (.slice a3 n c3)).setCell ⟨w.heap.size, 1, none⟩ (.int .i64 N)).cell? ⟨w.heap.size + 1 + 1, 1, none⟩ = some (.int .i64 0) := cell_set1 (cell_set1 (rs1_w3) (by have := as_W1.out; have := sz_W1.out; have := as_W2.out; have := sz_W2.out; have := as_W3.out; have := sz_W3.out; have := sz_w3.out; omega)) (by have := as_W1.out; have := sz_W1.out; have := as_W2.out; have := sz_W2.out; have := as_W3.out; have := sz_W3.out; have := sz_w3.out; omega)
  have rsF_W4 : ∀ o, ((w3.setCell ⟨w.heap.size, 0, none⟩ (.slice a3 n c3)).setCell ⟨w.heap.size, 1, none⟩ (.int .i64 N)).frozen? ⟨w.heap.size + 1 + 1, o, none⟩ = false := fun o => frz_set1 (frz_set1 ((rsF_w3 o)))
  have rsL_W4 : w.heap.size + 1 + 1 < ((w3.setCell ⟨w.heap.size, 0, none⟩ (.slice a3 n c3)).setCell ⟨w.heap.size, 1, none⟩ (.int .i64 N)).heap.size := by simpa using rsL_w3
  have oL_W4 : Hid (OwnG KSs 39 ((w3.setCell ⟨w.heap.size, 0, none⟩ (.slice a3 n c3)).setCell ⟨w.heap.size, 1, none⟩ (.int .i64 N)) (W3.heap.size) (.slice a3 n c3) (ls)) := hidP (OwnG.grown (OwnG.grown (oL_w3.out) (grown_cellG _ _ _ _) (OwnG.ne_of oL_w3.out (by have := as_W1.out; have := sz_W1.out; have := as_W2.out; have := sz_W2.out; have := as_W3.out; have := sz_W3.out; have := sz_w3.out; omega))) (grown_cellG _ _ _ _) (OwnG.ne_of oL_w3.out (by have := as_W1.out; have := sz_W1.out; have := as_W2.out; have := sz_W2.out; have := as_W3.out; have := sz_W3.out; have := sz_w3.out; omega)))
  have acc_W4 : Hid (Below w.heap.size w ((w3.setCell ⟨w.heap.size, 0, none⟩ (.slice a3 n c3)).setCell ⟨w.heap.size, 1, none⟩ (.int .i64 N))) := hidP (Below.setCell (Below.setCell (acc_w3.out) (by have := as_W1.out; have := sz_W1.out; have := as_W2.out; have := sz_W2.out; have := as_W3.out; have := sz_W3.out; have := sz_w3.out; try dsimp only; omega) _) (by have := as_W1.out; have := sz_W1.out; have := as_W2.out; have := sz_W2.out; have := as_W3.out; have := sz_W3.out; have := sz_w3.out; try dsimp only; omega) _)
  have sz_W4 : Hid (((w3.setCell ⟨w.heap.size, 0, none⟩ (.slice a3 n c3)).setCell ⟨w.heap.size, 1, none⟩ (.int .i64 N)).heap.size = w3.heap.size) := hidP (by simp)
  generalize (w3.setCell ⟨w.heap.size, 0, none⟩ (.slice a3 n c3)).setCell ⟨w.heap.size, 1, none⟩ (.int .i64 N) = W4 at *
  clear bk0_w3 bk1_w3 bkF_w3 bkL_w3 ix0_w3 ixF_w3 ixL_w3 rs0_w3 rs1_w3 rsF_w3 rsL_w3 oL_w3 acc_w3
  refine (HS.out _ _ a3 c3 bkL_W4 bk0_W4 bk1_W4 oL_W4.out.row).mono ?_
  rintro e w5 ⟨rfl, hb5⟩
  have bk0_w5 := (hb5.cell bkL_W4).trans bk0_W4
  have bk1_w5 := (hb5.cell bkL_W4).trans bk1_W4
  have bkF_w5 : ∀ o, w5.frozen? ⟨w.heap.size, o, none⟩ = false := fun o => (hb5.frozen bkL_W4).trans (bkF_W4 o)
  have bkL_w5 : w.heap.size < w5.heap.size := Nat.lt_of_lt_of_le bkL_W4 hb5.size
  have ix0_w5 := (hb5.cell ixL_W4).trans ix0_W4
  have ixF_w5 : ∀ o, w5.frozen? ⟨w.heap.size + 1, o, none⟩ = false := fun o => (hb5.frozen ixL_W4).trans (ixF_W4 o)
  have ixL_w5 : w.heap.size + 1 < w5.heap.size := Nat.lt_of_lt_of_le ixL_W4 hb5.size
  have rs0_w5 := (hb5.cell rsL_W4).trans rs0_W4
  have rs1_w5 := (hb5.cell rsL_W4).trans rs1_W4
  have rsF_w5 : ∀ o, w5.frozen? ⟨w.heap.size + 1 + 1, o, none⟩ = false := fun o => (hb5.frozen rsL_W4).trans (rsF_W4 o)
  have rsL_w5 : w.heap.size + 1 + 1 < w5.heap.size := Nat.lt_of_lt_of_le rsL_W4 hb5.size
  have oL_w5 := hidP (OwnG.later oL_W4.out hb5)
  have acc_w5 := hidP (acc_W4.out.trans (hb5.mono acc_W4.out.size))
  have sz_w5 : Hid (W4.heap.size ≤ w5.heap.size) := hidP hb5.size
  clear hb5 bk0_W4 bk1_W4 bkF_W4 bkL_W4 ix0_W4 ixF_W4 ixL_W4 rs0_W4 rs1_W4 rsF_W4 rsL_W4 oL_W4 acc_W4
  go_wp2_with fail
  refine bodyPost_ret (v := .tuple #[.agg #[.slice a3 n c3, .int .i64 N], .bool false]) (by simp [results, Try.results12, go_sem, rs0_w5, rs1_w5]) rfl ⟨_, _, rfl, ?_, ?_⟩
  · refine OwnG.mono (B := W3.heap.size) ?_ (by have := as_W1.out; have := sz_W1.out; have := as_W2.out; have := sz_W2.out; have := as_W3.out; have := sz_W3.out; have := sz_w3.out; have := sz_W4.out; have := sz_w5.out; omega)
    iterate 2 (with_reducible refine OwnG.grown ?_ (grown_cellG _ _ _ _) ?_; rotate_left; (focus (first | exact OwnG.ne_of oL_w5.out (by have := as_W1.out; have := sz_W1.out; have := as_W2.out; have := sz_W2.out; have := as_W3.out; have := sz_W3.out; have := sz_w3.out; have := sz_W4.out; have := sz_w5.out; omega))))
    with_reducible exact oL_w5.out
  · repeat (with_reducible refine Below.setCell ?_ ?_ _; rotate_left; (focus (first | (simp; done) | (simp; omega) | (dsimp only; have := as_W1.out; have := sz_W1.out; have := as_W2.out; have := sz_W2.out; have := as_W3.out; have := sz_W3.out; have := sz_w3.out; have := sz_W4.out; have := sz_w5.out; omega))))
    exact acc_w5.out

set_option maxRecDepth 10000 in
set_option maxHeartbeats 4000000 in
theorem iCl_yes (a : Option Addr) (n c : Nat) (N : Int) (ls : List Ss) (w : World) (hn : n = ls.length) (hB : RowG KSs w a ls) (hl : n ≤ 1048576) (id : Int) (hr : dkB ls N = true) (I : Nat) (hf : findS id ls = some I) :
    Calls Try.prog 12 #[.agg #[.slice a n c, .int .i64 N], .int .i64 id] w fun e w' => ∃ a' c', e = .returned (.tuple #[.agg #[.slice a' (n - 1) c', .int .i64 N], .bool true]) ∧ OwnG KSs 39 w' w.heap.size (.slice a' (n - 1) c') (ls.eraseIdx I) ∧ Below w.heap.size w w' := by
  have HOw := hidP (fun W h => ownDesk_any a n c N ls W hn (hB.later h) hl)
  have HS := hidP (fun W b a c (bL : b < W.heap.size) b0 b1 e1 => session_some b a n c N ls W hn e1 hl bL b0 b1 id hr I hf)
  obtain ⟨qI, hqI, heI, hIl, _⟩ := findS_at hf
  have hI : I < n := by rw [hn]; exact hIl
  have HDe := hidP (fun W g c B e1 hc hcg => deleteFunc_any (w.heap.size + 1) id g n c B ls W hn hl e1 hc hcg I hf (fun j r hj hr' he => by
    have := ses_one (dk_next hr).2.2.2 I j qI r hj hqI hr'
    omega))
  clear hB hn hr hf hqI heI hIl
  go_enter Try.func12, Try.ntmps12
  go_wp2_with fail
  obtain ⟨bk0_W1, bk1_W1⟩ := box2D w 26 (.slice a n c) (.int .i64 N)
  have bkF_W1 : ∀ o, (w.alloc (.cells #[.slice a n c, .int .i64 N] 26)).frozen? ⟨w.heap.size, o, none⟩ = false := fun o => by simp [go_sem]
  have bkL_W1 : w.heap.size < (w.alloc (.cells #[.slice a n c, .int .i64 N] 26)).heap.size := by simp
  have ab_W1 := alloc_below w (.cells #[.slice a n c, .int .i64 N] 26)
  have as_W1 : Hid ((w.alloc (.cells #[.slice a n c, .int .i64 N] 26)).heap.size = w.heap.size + 1) := hidP (by simp)
  generalize w.alloc (.cells #[.slice a n c, .int .i64 N] 26) = W1 at *
  have acc_W1 := hidP (ab_W1)
  have sz_W1 : Hid (w.heap.size ≤ W1.heap.size) := hidP ab_W1.size
  clear ab_W1 
  have ix0_W2 := box1D W1 3 (.int .i64 id)
  have ixF_W2 : ∀ o, (W1.alloc (.cells #[.int .i64 id] 3)).frozen? ⟨W1.heap.size, o, none⟩ = false := fun o => by simp [go_sem]
  have ixL_W2 : W1.heap.size < (W1.alloc (.cells #[.int .i64 id] 3)).heap.size := by simp
  have ab_W2 := alloc_below W1 (.cells #[.int .i64 id] 3)
  have as_W2 : Hid ((W1.alloc (.cells #[.int .i64 id] 3)).heap.size = W1.heap.size + 1) := hidP (by simp)
  generalize W1.alloc (.cells #[.int .i64 id] 3) = W2 at *
  have bk0_W2 := (ab_W2.cell bkL_W1).trans bk0_W1
  have bk1_W2 := (ab_W2.cell bkL_W1).trans bk1_W1
  have bkF_W2 : ∀ o, W2.frozen? ⟨w.heap.size, o, none⟩ = false := fun o => (ab_W2.frozen bkL_W1).trans (bkF_W1 o)
  have bkL_W2 : w.heap.size < W2.heap.size := Nat.lt_of_lt_of_le bkL_W1 ab_W2.size
  have acc_W2 := hidP (acc_W1.out.trans (ab_W2.mono acc_W1.out.size))
  have sz_W2 : Hid (W1.heap.size ≤ W2.heap.size) := hidP ab_W2.size
  clear ab_W2 bk0_W1 bk1_W1 bkF_W1 bkL_W1 acc_W1
  rw [as_W1.out] at ix0_W2 ixL_W2
  have ixF_W2' : ∀ o, W2.frozen? ⟨w.heap.size + 1, o, none⟩ = false := fun o => by have := ixF_W2 o; rw [as_W1.out] at this; exact this
  clear ixF_W2
  have ixF_W2 := ixF_W2'
  clear ixF_W2'
  obtain ⟨rs0_W3, rs1_W3⟩ := box2D W2 26 (.slice none 0 0) (.int .i64 0)
  have rsF_W3 : ∀ o, (W2.alloc (.cells #[.slice none 0 0, .int .i64 0] 26)).frozen? ⟨W2.heap.size, o, none⟩ = false := fun o => by simp [go_sem]
  have rsL_W3 : W2.heap.size < (W2.alloc (.cells #[.slice none 0 0, .int .i64 0] 26)).heap.size := by simp
  have ab_W3 := alloc_below W2 (.cells #[.slice none 0 0, .int .i64 0] 26)
  have as_W3 : Hid ((W2.alloc (.cells #[.slice none 0 0, .int .i64 0] 26)).heap.size = W2.heap.size + 1) := hidP (by simp)
  generalize W2.alloc (.cells #[.slice none 0 0, .int .i64 0] 26) = W3 at *
  have bk0_W3 := (ab_W3.cell bkL_W2).trans bk0_W2
  have bk1_W3 := (ab_W3.cell bkL_W2).trans bk1_W2
  have bkF_W3 : ∀ o, W3.frozen? ⟨w.heap.size, o, none⟩ = false := fun o => (ab_W3.frozen bkL_W2).trans (bkF_W2 o)
  have bkL_W3 : w.heap.size < W3.heap.size := Nat.lt_of_lt_of_le bkL_W2 ab_W3.size
  have ix0_W3 := (ab_W3.cell ixL_W2).trans ix0_W2
  have ixF_W3 : ∀ o, W3.frozen? ⟨w.heap.size + 1, o, none⟩ = false := fun o => (ab_W3.frozen ixL_W2).trans (ixF_W2 o)
  have ixL_W3 : w.heap.size + 1 < W3.heap.size := Nat.lt_of_lt_of_le ixL_W2 ab_W3.size
  have acc_W3 := hidP (acc_W2.out.trans (ab_W3.mono acc_W2.out.size))
  have sz_W3 : Hid (W2.heap.size ≤ W3.heap.size) := hidP ab_W3.size
  clear ab_W3 bk0_W2 bk1_W2 bkF_W2 bkL_W2 ix0_W2 ixF_W2 ixL_W2 acc_W2
  rw [as_W2.out, as_W1.out] at rs0_W3 rs1_W3 rsL_W3
  have rsF_W3' : ∀ o, W3.frozen? ⟨w.heap.size + 1 + 1, o, none⟩ = false := fun o => by have := rsF_W3 o; rw [as_W2.out, as_W1.out] at this; exact this
  clear rsF_W3
  have rsF_W3 := rsF_W3'
  clear rsF_W3'
  refine (HOw.out _ acc_W3.out).mono ?_
  rintro e w3 ⟨a3, c3, rfl, og3, hb3⟩
  have OG := hidP og3
  clear og3
  have bk0_w3 := (hb3.cell bkL_W3).trans bk0_W3
  have bk1_w3 := (hb3.cell bkL_W3).trans bk1_W3
  have bkF_w3 : ∀ o, w3.frozen? ⟨w.heap.size, o, none⟩ = false := fun o => (hb3.frozen bkL_W3).trans (bkF_W3 o)
  have bkL_w3 : w.heap.size < w3.heap.size := Nat.lt_of_lt_of_le bkL_W3 hb3.size
  have ix0_w3 := (hb3.cell ixL_W3).trans ix0_W3
  have ixF_w3 : ∀ o, w3.frozen? ⟨w.heap.size + 1, o, none⟩ = false := fun o => (hb3.frozen ixL_W3).trans (ixF_W3 o)
  have ixL_w3 : w.heap.size + 1 < w3.heap.size := Nat.lt_of_lt_of_le ixL_W3 hb3.size
  have rs0_w3 := (hb3.cell rsL_W3).trans rs0_W3
  have rs1_w3 := (hb3.cell rsL_W3).trans rs1_W3
  have rsF_w3 : ∀ o, w3.frozen? ⟨w.heap.size + 1 + 1, o, none⟩ = false := fun o => (hb3.frozen rsL_W3).trans (rsF_W3 o)
  have rsL_w3 : w.heap.size + 1 + 1 < w3.heap.size := Nat.lt_of_lt_of_le rsL_W3 hb3.size
  have acc_w3 := hidP (acc_W3.out.trans (hb3.mono acc_W3.out.size))
  have sz_w3 : Hid (W3.heap.size ≤ w3.heap.size) := hidP hb3.size
  clear hb3 bk0_W3 bk1_W3 bkF_W3 bkL_W3 ix0_W3 ixF_W3 ixL_W3 rs0_W3 rs1_W3 rsF_W3 rsL_W3 acc_W3
  have oL_w3 := hidP (OG.out)
  have lhL : Hid (∀ k, (Value.slice a3 n c3).ownBlock = some k → W3.heap.size ≤ k ∧ k < w3.heap.size) := hidP (fun k hk => OwnG.lt oL_w3.out k hk)
  clear OG
  go_wp2_with fail
  have bk0_W4 : ((w3.setCell ⟨w.heap.size, 0, none⟩ (.slice a3 n c3)).setCell ⟨w.heap.size, 1, none⟩ (.int .i64 N)).cell? ⟨w.heap.size, 0, none⟩ = some (.slice a3 n c3) := by simp [go_sem, bk0_w3]
  have bk1_W4 : ((w3.setCell ⟨w.heap.size, 0, none⟩ (.slice a3 n c3)).setCell ⟨w.heap.size, 1, none⟩ (.int .i64 N)).cell? ⟨w.heap.size, 1, none⟩ = some (.int .i64 N) := by simp [go_sem, bk1_w3]
  have bkF_W4 : ∀ o, ((w3.setCell ⟨w.heap.size, 0, none⟩ (.slice a3 n c3)).setCell ⟨w.heap.size, 1, none⟩ (.int .i64 N)).frozen? ⟨w.heap.size, o, none⟩ = false := fun o => frz_set1 (frz_set1 ((bkF_w3 o)))
  have bkL_W4 : w.heap.size < ((w3.setCell ⟨w.heap.size, 0, none⟩ (.slice a3 n c3)).setCell ⟨w.heap.size, 1, none⟩ (.int .i64 N)).heap.size := by simpa using bkL_w3
  have ix0_W4 : ((w3.setCell ⟨w.heap.size, 0, none⟩ (.slice a3 n c3)).setCell ⟨w.heap.size, 1, none⟩ (.int .i64 N)).cell? ⟨w.heap.size + 1, 0, none⟩ = some (.int .i64 id) := cell_set1 (cell_set1 (ix0_w3) (by have := as_W1.out; have := sz_W1.out; have := as_W2.out; have := sz_W2.out; have := as_W3.out; have := sz_W3.out; have := sz_w3.out; omega)) (by have := as_W1.out; have := sz_W1.out; have := as_W2.out; have := sz_W2.out; have := as_W3.out; have := sz_W3.out; have := sz_w3.out; omega)
  have ixF_W4 : ∀ o, ((w3.setCell ⟨w.heap.size, 0, none⟩ (.slice a3 n c3)).setCell ⟨w.heap.size, 1, none⟩ (.int .i64 N)).frozen? ⟨w.heap.size + 1, o, none⟩ = false := fun o => frz_set1 (frz_set1 ((ixF_w3 o)))
  have ixL_W4 : w.heap.size + 1 < ((w3.setCell ⟨w.heap.size, 0, none⟩ (.slice a3 n c3)).setCell ⟨w.heap.size, 1, none⟩ (.int .i64 N)).heap.size := by simpa using ixL_w3
  have rs0_W4 : ((w3.setCell ⟨w.heap.size, 0, none⟩ (.slice a3 n c3)).setCell ⟨w.heap.size, 1, none⟩ (.int .i64 N)).cell? ⟨w.heap.size + 1 + 1, 0, none⟩ = some (.slice none 0 0) := cell_set1 (cell_set1 (rs0_w3) (by have := as_W1.out; have := sz_W1.out; have := as_W2.out; have := sz_W2.out; have := as_W3.out; have := sz_W3.out; have := sz_w3.out; omega)) (by have := as_W1.out; have := sz_W1.out; have := as_W2.out; have := sz_W2.out; have := as_W3.out; have := sz_W3.out; have := sz_w3.out; omega)
  have rs1_W4 : ((w3.setCell ⟨w.heap.size, 0, none⟩ (.slice a3 n c3)).setCell ⟨w.heap.size, 1, none⟩ (.int .i64 N)).cell? ⟨w.heap.size + 1 + 1, 1, none⟩ = some (.int .i64 0) := cell_set1 (cell_set1 (rs1_w3) (by have := as_W1.out; have := sz_W1.out; have := as_W2.out; have := sz_W2.out; have := as_W3.out; have := sz_W3.out; have := sz_w3.out; omega)) (by have := as_W1.out; have := sz_W1.out; have := as_W2.out; have := sz_W2.out; have := as_W3.out; have := sz_W3.out; have := sz_w3.out; omega)
  have rsF_W4 : ∀ o, ((w3.setCell ⟨w.heap.size, 0, none⟩ (.slice a3 n c3)).setCell ⟨w.heap.size, 1, none⟩ (.int .i64 N)).frozen? ⟨w.heap.size + 1 + 1, o, none⟩ = false := fun o => frz_set1 (frz_set1 ((rsF_w3 o)))
  have rsL_W4 : w.heap.size + 1 + 1 < ((w3.setCell ⟨w.heap.size, 0, none⟩ (.slice a3 n c3)).setCell ⟨w.heap.size, 1, none⟩ (.int .i64 N)).heap.size := by simpa using rsL_w3
  have oL_W4 : Hid (OwnG KSs 39 ((w3.setCell ⟨w.heap.size, 0, none⟩ (.slice a3 n c3)).setCell ⟨w.heap.size, 1, none⟩ (.int .i64 N)) (W3.heap.size) (.slice a3 n c3) (ls)) := hidP (OwnG.grown (OwnG.grown (oL_w3.out) (grown_cellG _ _ _ _) (OwnG.ne_of oL_w3.out (by have := as_W1.out; have := sz_W1.out; have := as_W2.out; have := sz_W2.out; have := as_W3.out; have := sz_W3.out; have := sz_w3.out; omega))) (grown_cellG _ _ _ _) (OwnG.ne_of oL_w3.out (by have := as_W1.out; have := sz_W1.out; have := as_W2.out; have := sz_W2.out; have := as_W3.out; have := sz_W3.out; have := sz_w3.out; omega)))
  have acc_W4 : Hid (Below w.heap.size w ((w3.setCell ⟨w.heap.size, 0, none⟩ (.slice a3 n c3)).setCell ⟨w.heap.size, 1, none⟩ (.int .i64 N))) := hidP (Below.setCell (Below.setCell (acc_w3.out) (by have := as_W1.out; have := sz_W1.out; have := as_W2.out; have := sz_W2.out; have := as_W3.out; have := sz_W3.out; have := sz_w3.out; try dsimp only; omega) _) (by have := as_W1.out; have := sz_W1.out; have := as_W2.out; have := sz_W2.out; have := as_W3.out; have := sz_W3.out; have := sz_w3.out; try dsimp only; omega) _)
  have sz_W4 : Hid (((w3.setCell ⟨w.heap.size, 0, none⟩ (.slice a3 n c3)).setCell ⟨w.heap.size, 1, none⟩ (.int .i64 N)).heap.size = w3.heap.size) := hidP (by simp)
  generalize (w3.setCell ⟨w.heap.size, 0, none⟩ (.slice a3 n c3)).setCell ⟨w.heap.size, 1, none⟩ (.int .i64 N) = W4 at *
  clear bk0_w3 bk1_w3 bkF_w3 bkL_w3 ix0_w3 ixF_w3 ixL_w3 rs0_w3 rs1_w3 rsF_w3 rsL_w3 oL_w3 acc_w3
  refine (HS.out _ _ a3 c3 bkL_W4 bk0_W4 bk1_W4 oL_W4.out.row).mono ?_
  rintro e w5 ⟨pp, oo, hap, rfl, hb5⟩
  have bk0_w5 := (hb5.cell bkL_W4).trans bk0_W4
  have bk1_w5 := (hb5.cell bkL_W4).trans bk1_W4
  have bkF_w5 : ∀ o, w5.frozen? ⟨w.heap.size, o, none⟩ = false := fun o => (hb5.frozen bkL_W4).trans (bkF_W4 o)
  have bkL_w5 : w.heap.size < w5.heap.size := Nat.lt_of_lt_of_le bkL_W4 hb5.size
  have ix0_w5 := (hb5.cell ixL_W4).trans ix0_W4
  have ixF_w5 : ∀ o, w5.frozen? ⟨w.heap.size + 1, o, none⟩ = false := fun o => (hb5.frozen ixL_W4).trans (ixF_W4 o)
  have ixL_w5 : w.heap.size + 1 < w5.heap.size := Nat.lt_of_lt_of_le ixL_W4 hb5.size
  have rs0_w5 := (hb5.cell rsL_W4).trans rs0_W4
  have rs1_w5 := (hb5.cell rsL_W4).trans rs1_W4
  have rsF_w5 : ∀ o, w5.frozen? ⟨w.heap.size + 1 + 1, o, none⟩ = false := fun o => (hb5.frozen rsL_W4).trans (rsF_W4 o)
  have rsL_w5 : w.heap.size + 1 + 1 < w5.heap.size := Nat.lt_of_lt_of_le rsL_W4 hb5.size
  have oL_w5 := hidP (OwnG.later oL_W4.out hb5)
  have acc_w5 := hidP (acc_W4.out.trans (hb5.mono acc_W4.out.size))
  have sz_w5 : Hid (W4.heap.size ≤ w5.heap.size) := hidP hb5.size
  clear hb5 bk0_W4 bk1_W4 bkF_W4 bkL_W4 ix0_W4 ixF_W4 ixL_W4 rs0_W4 rs1_W4 rsF_W4 rsL_W4 oL_W4 acc_W4
  clear hap
  obtain ⟨gg, rfl⟩ := own_some oL_w5.out (by omega)
  have lgg := lhL.out gg rfl
  have hcg : w.heap.size + 1 ≠ gg := (by have := as_W1.out; have := sz_W1.out; have := as_W2.out; have := sz_W2.out; have := as_W3.out; have := sz_W3.out; have := sz_w3.out; have := sz_W4.out; have := sz_w5.out; omega)
  have HDe1 := hidP (HDe.out _ gg c3 _ oL_w5.out ix0_w5 hcg)
  clear HDe
  go_wp2_with fail
  refine (HDe1.out).mono ?_
  rintro e w6 ⟨rfl, om, hg⟩
  have OM := hidP om
  clear om
  have hg' : w5.grownBy w6 (Value.slice (some ⟨gg, 0, none⟩) n c3).ownBlock := hg
  clear hg
  have nebk : ∀ k, (Value.slice (some ⟨gg, 0, none⟩) n c3).ownBlock = some k → k ≠ w.heap.size := fun k hk => by have h5 := lhL.out k hk; have := as_W1.out; have := sz_W1.out; have := as_W2.out; have := sz_W2.out; have := as_W3.out; have := sz_W3.out; have := sz_w3.out; have := sz_W4.out; have := sz_w5.out; omega
  have bk0_w6 := cell_grown hg' bk0_w5 nebk
  have bk1_w6 := cell_grown hg' bk1_w5 nebk
  have bkF_w6 : ∀ o, w6.frozen? ⟨w.heap.size, o, none⟩ = false := fun o => frz_grown hg' bkL_w5 (bkF_w5 o) nebk
  have bkL_w6 : w.heap.size < w6.heap.size := Nat.lt_of_lt_of_le bkL_w5 hg'.size
  have neix : ∀ k, (Value.slice (some ⟨gg, 0, none⟩) n c3).ownBlock = some k → k ≠ w.heap.size + 1 := fun k hk => by have h5 := lhL.out k hk; have := as_W1.out; have := sz_W1.out; have := as_W2.out; have := sz_W2.out; have := as_W3.out; have := sz_W3.out; have := sz_w3.out; have := sz_W4.out; have := sz_w5.out; omega
  have ix0_w6 := cell_grown hg' ix0_w5 neix
  have ixF_w6 : ∀ o, w6.frozen? ⟨w.heap.size + 1, o, none⟩ = false := fun o => frz_grown hg' ixL_w5 (ixF_w5 o) neix
  have ixL_w6 : w.heap.size + 1 < w6.heap.size := Nat.lt_of_lt_of_le ixL_w5 hg'.size
  have ners : ∀ k, (Value.slice (some ⟨gg, 0, none⟩) n c3).ownBlock = some k → k ≠ w.heap.size + 1 + 1 := fun k hk => by have h5 := lhL.out k hk; have := as_W1.out; have := sz_W1.out; have := as_W2.out; have := sz_W2.out; have := as_W3.out; have := sz_W3.out; have := sz_w3.out; have := sz_W4.out; have := sz_w5.out; omega
  have rs0_w6 := cell_grown hg' rs0_w5 ners
  have rs1_w6 := cell_grown hg' rs1_w5 ners
  have rsF_w6 : ∀ o, w6.frozen? ⟨w.heap.size + 1 + 1, o, none⟩ = false := fun o => frz_grown hg' rsL_w5 (rsF_w5 o) ners
  have rsL_w6 : w.heap.size + 1 + 1 < w6.heap.size := Nat.lt_of_lt_of_le rsL_w5 hg'.size
  have oL_w6 := hidP (OM.out)
  have acc_w6 := hidP (Below.grown acc_w5.out hg' acc_w5.out.size (fun k hk => by have h5 := lhL.out k hk; have := as_W1.out; have := sz_W1.out; have := as_W2.out; have := sz_W2.out; have := as_W3.out; have := sz_W3.out; have := sz_w3.out; have := sz_W4.out; have := sz_w5.out; omega))
  have sz_w6 : Hid (w5.heap.size ≤ w6.heap.size) := hidP hg'.size
  clear hg' bk0_w5 bk1_w5 bkF_w5 bkL_w5 nebk ix0_w5 ixF_w5 ixL_w5 neix rs0_w5 rs1_w5 rsF_w5 rsL_w5 ners oL_w5 acc_w5
  clear OM
  go_wp2_with fail
  refine bodyPost_ret (v := .tuple #[.agg #[.slice (some ⟨gg, 0, none⟩) (n - 1) c3, .int .i64 N], .bool true]) (by simp [results, Try.results12, go_sem, rs0_w6, rs1_w6]) rfl ⟨_, _, rfl, ?_, ?_⟩
  · refine OwnG.mono (B := W3.heap.size) ?_ (by have := as_W1.out; have := sz_W1.out; have := as_W2.out; have := sz_W2.out; have := as_W3.out; have := sz_W3.out; have := sz_w3.out; have := sz_W4.out; have := sz_w5.out; have := sz_w6.out; omega)
    iterate 3 (with_reducible refine OwnG.grown ?_ (grown_cellG _ _ _ _) ?_; rotate_left; (focus (first | exact OwnG.ne_of oL_w6.out (by have := as_W1.out; have := sz_W1.out; have := as_W2.out; have := sz_W2.out; have := as_W3.out; have := sz_W3.out; have := sz_w3.out; have := sz_W4.out; have := sz_w5.out; have := sz_w6.out; omega))))
    with_reducible exact oL_w6.out
  · repeat (with_reducible refine Below.setCell ?_ ?_ _; rotate_left; (focus (first | (simp; done) | (simp; omega) | (dsimp only; have := as_W1.out; have := sz_W1.out; have := as_W2.out; have := sz_W2.out; have := as_W3.out; have := sz_W3.out; have := sz_w3.out; have := sz_W4.out; have := sz_w5.out; have := sz_w6.out; omega))))
    exact acc_w6.out

end Go.Proofs.Ytjenbmiiikeenaa
