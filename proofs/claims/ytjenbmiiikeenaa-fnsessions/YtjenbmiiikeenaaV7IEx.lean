/-
  The program's ExpireSessions.
-/
import Derived.Test.YtjenbmiiikeenaaX7Aux
import Derived.Test.YtjenbmiiikeenaaV7Int
namespace Go.Proofs.Ytjenbmiiikeenaa
open Go.RowKit

def stayS (now : Int) (ls : List Ss) : List Ss := ls.filter (fun x => !decide (x.u < now))
def goneS (now : Int) (ls : List Ss) : List Int := (ls.filter (fun x => decide (x.u < now))).map Ss.i
theorem take_at7 {α : Type} {ls : List α} {k : Nat} {q : α} (h : ls[k]? = some q) : ls.take k ++ [q] = ls.take (k + 1) := by rw [List.take_add_one, h]; rfl
theorem stay_yes {now : Int} {ls : List Ss} {k : Nat} {q : Ss} (h : ls[k]? = some q) (hu : decide (q.u < now) = false) : stayS now (ls.take (k + 1)) = stayS now (ls.take k) ++ [q] ∧ goneS now (ls.take (k + 1)) = goneS now (ls.take k) := by
  unfold stayS goneS
  rw [← take_at7 h, List.filter_append, List.filter_append]
  simp [hu]
theorem stay_no {now : Int} {ls : List Ss} {k : Nat} {q : Ss} (h : ls[k]? = some q) (hu : decide (q.u < now) = true) : stayS now (ls.take (k + 1)) = stayS now (ls.take k) ∧ goneS now (ls.take (k + 1)) = goneS now (ls.take k) ++ [q.i] := by
  unfold stayS goneS
  rw [← take_at7 h, List.filter_append, List.filter_append]
  simp [hu]
theorem stay_len (now : Int) (ls : List Ss) : (stayS now ls).length ≤ ls.length ∧ (goneS now ls).length ≤ ls.length := by
  unfold stayS goneS
  exact ⟨List.length_filter_le _ _, by rw [List.length_map]; exact List.length_filter_le _ _⟩
set_option maxHeartbeats 1000000 in
theorem endedBy_any (p o : Nat) (x now : Int) (w : World) (c3 : w.cell? ⟨p, o + 3, none⟩ = some (.int .i64 x)) :
    Calls Try.prog 38 #[.pointer (some ⟨p, o, none⟩), .int .i64 now] w fun e w' => e = .returned (.bool (decide (x < now))) ∧ w' = w := by
  cases h : decide (x < now)
  all_goals
    go_enter Try.func38, Try.ntmps38
    go_wp2_with fail
    go_ret
    exact ⟨rfl, rfl⟩

set_option maxRecDepth 10000 in
set_option maxHeartbeats 4000000 in
theorem iEx_no (a : Option Addr) (n c : Nat) (N : Int) (ls : List Ss) (w : World) (hn : n = ls.length) (hB : RowG KSs w a ls) (hl : n ≤ 1048576) (now : Int) (hr : dkB ls N = false) :
    Calls Try.prog 16 #[.agg #[.slice a n c, .int .i64 N], .int .i64 now] w fun e w' => ∃ a' c' b' d', e = .returned (.tuple #[.agg #[.slice a' n c', .int .i64 N], .slice b' 0 d']) ∧ OwnG KSs 39 w' w.heap.size (.slice a' n c') (ls) ∧ OwnG KI 3 w' w.heap.size (.slice b' 0 d') ([]) ∧ (∀ k, (Value.slice a' n c').ownBlock = some k → (Value.slice b' 0 d').ownBlock ≠ some k) ∧ Below w.heap.size w w' := by
  have HOw := hidP (fun W h => ownDesk_any a n c N ls W hn (hB.later h) hl)
  have HIm := hidP (fun W a c e1 => iDeskOk_any a n c N ls W hn e1 hl)
  have HN := hidP hn
  rw [hr] at HIm
  clear hB hn hr
  go_enter Try.func16, Try.ntmps16
  go_wp2_with fail
  obtain ⟨bk0_W1, bk1_W1⟩ := box2D w 26 (.slice a n c) (.int .i64 N)
  have bkF_W1 : ∀ o, (w.alloc (.cells #[.slice a n c, .int .i64 N] 26)).frozen? ⟨w.heap.size, o, none⟩ = false := fun o => by simp [go_sem]
  have bkL_W1 : w.heap.size < (w.alloc (.cells #[.slice a n c, .int .i64 N] 26)).heap.size := by simp
  have ab_W1 := alloc_below w (.cells #[.slice a n c, .int .i64 N] 26)
  have as_W1 : Hid ((w.alloc (.cells #[.slice a n c, .int .i64 N] 26)).heap.size = w.heap.size + 1) := hidP (by simp)
  generalize w.alloc (.cells #[.slice a n c, .int .i64 N] 26) = W1 at *
  have acc_W1 := hidP (ab_W1)
  have sz_W1 : Hid (w.heap.size ≤ W1.heap.size) := hidP ab_W1.size
  clear ab_W1 
  obtain ⟨rs0_W2, rs1_W2⟩ := box2D W1 26 (.slice none 0 0) (.int .i64 0)
  have rsF_W2 : ∀ o, (W1.alloc (.cells #[.slice none 0 0, .int .i64 0] 26)).frozen? ⟨W1.heap.size, o, none⟩ = false := fun o => by simp [go_sem]
  have rsL_W2 : W1.heap.size < (W1.alloc (.cells #[.slice none 0 0, .int .i64 0] 26)).heap.size := by simp
  have ab_W2 := alloc_below W1 (.cells #[.slice none 0 0, .int .i64 0] 26)
  have as_W2 : Hid ((W1.alloc (.cells #[.slice none 0 0, .int .i64 0] 26)).heap.size = W1.heap.size + 1) := hidP (by simp)
  generalize W1.alloc (.cells #[.slice none 0 0, .int .i64 0] 26) = W2 at *
  have bk0_W2 := (ab_W2.cell bkL_W1).trans bk0_W1
  have bk1_W2 := (ab_W2.cell bkL_W1).trans bk1_W1
  have bkF_W2 : ∀ o, W2.frozen? ⟨w.heap.size, o, none⟩ = false := fun o => (ab_W2.frozen bkL_W1).trans (bkF_W1 o)
  have bkL_W2 : w.heap.size < W2.heap.size := Nat.lt_of_lt_of_le bkL_W1 ab_W2.size
  have acc_W2 := hidP (acc_W1.out.trans (ab_W2.mono acc_W1.out.size))
  have sz_W2 : Hid (W1.heap.size ≤ W2.heap.size) := hidP ab_W2.size
  clear ab_W2 bk0_W1 bk1_W1 bkF_W1 bkL_W1 acc_W1
  rw [as_W1.out] at rs0_W2 rs1_W2 rsL_W2
  have rsF_W2' : ∀ o, W2.frozen? ⟨w.heap.size + 1, o, none⟩ = false := fun o => by have := rsF_W2 o; rw [as_W1.out] at this; exact this
  clear rsF_W2
  have rsF_W2 := rsF_W2'
  clear rsF_W2'
  refine (HOw.out _ acc_W2.out).mono ?_
  rintro e w3 ⟨a3, c3, rfl, og3, hb3⟩
  have lo3 := hidP (fun k hk => OwnG.lt og3 k hk)
  have OG := hidP og3
  clear og3
  have bk0_w3 := (hb3.cell bkL_W2).trans bk0_W2
  have bk1_w3 := (hb3.cell bkL_W2).trans bk1_W2
  have bkF_w3 : ∀ o, w3.frozen? ⟨w.heap.size, o, none⟩ = false := fun o => (hb3.frozen bkL_W2).trans (bkF_W2 o)
  have bkL_w3 : w.heap.size < w3.heap.size := Nat.lt_of_lt_of_le bkL_W2 hb3.size
  have rs0_w3 := (hb3.cell rsL_W2).trans rs0_W2
  have rs1_w3 := (hb3.cell rsL_W2).trans rs1_W2
  have rsF_w3 : ∀ o, w3.frozen? ⟨w.heap.size + 1, o, none⟩ = false := fun o => (hb3.frozen rsL_W2).trans (rsF_W2 o)
  have rsL_w3 : w.heap.size + 1 < w3.heap.size := Nat.lt_of_lt_of_le rsL_W2 hb3.size
  have acc_w3 := hidP (acc_W2.out.trans (hb3.mono acc_W2.out.size))
  have sz_w3 : Hid (W2.heap.size ≤ w3.heap.size) := hidP hb3.size
  clear hb3 bk0_W2 bk1_W2 bkF_W2 bkL_W2 rs0_W2 rs1_W2 rsF_W2 rsL_W2 acc_W2
  have oL_w3 := hidP (OG.out)
  clear OG
  go_wp2_with fail
  have bk0_W4 : ((w3.setCell ⟨w.heap.size, 0, none⟩ (.slice a3 n c3)).setCell ⟨w.heap.size, 1, none⟩ (.int .i64 N)).cell? ⟨w.heap.size, 0, none⟩ = some (.slice a3 n c3) := by simp [go_sem, bk0_w3]
  have bk1_W4 : ((w3.setCell ⟨w.heap.size, 0, none⟩ (.slice a3 n c3)).setCell ⟨w.heap.size, 1, none⟩ (.int .i64 N)).cell? ⟨w.heap.size, 1, none⟩ = some (.int .i64 N) := by simp [go_sem, bk1_w3]
  have bkF_W4 : ∀ o, ((w3.setCell ⟨w.heap.size, 0, none⟩ (.slice a3 n c3)).setCell ⟨w.heap.size, 1, none⟩ (.int .i64 N)).frozen? ⟨w.heap.size, o, none⟩ = false := fun o => frz_set1 (frz_set1 ((bkF_w3 o)))
  have bkL_W4 : w.heap.size < ((w3.setCell ⟨w.heap.size, 0, none⟩ (.slice a3 n c3)).setCell ⟨w.heap.size, 1, none⟩ (.int .i64 N)).heap.size := by simpa using bkL_w3
  have rs0_W4 : ((w3.setCell ⟨w.heap.size, 0, none⟩ (.slice a3 n c3)).setCell ⟨w.heap.size, 1, none⟩ (.int .i64 N)).cell? ⟨w.heap.size + 1, 0, none⟩ = some (.slice none 0 0) := cell_set1 (cell_set1 (rs0_w3) (by have := as_W1.out; have := sz_W1.out; have := as_W2.out; have := sz_W2.out; have := sz_w3.out; omega)) (by have := as_W1.out; have := sz_W1.out; have := as_W2.out; have := sz_W2.out; have := sz_w3.out; omega)
  have rs1_W4 : ((w3.setCell ⟨w.heap.size, 0, none⟩ (.slice a3 n c3)).setCell ⟨w.heap.size, 1, none⟩ (.int .i64 N)).cell? ⟨w.heap.size + 1, 1, none⟩ = some (.int .i64 0) := cell_set1 (cell_set1 (rs1_w3) (by have := as_W1.out; have := sz_W1.out; have := as_W2.out; have := sz_W2.out; have := sz_w3.out; omega)) (by have := as_W1.out; have := sz_W1.out; have := as_W2.out; have := sz_W2.out; have := sz_w3.out; omega)
  have rsF_W4 : ∀ o, ((w3.setCell ⟨w.heap.size, 0, none⟩ (.slice a3 n c3)).setCell ⟨w.heap.size, 1, none⟩ (.int .i64 N)).frozen? ⟨w.heap.size + 1, o, none⟩ = false := fun o => frz_set1 (frz_set1 ((rsF_w3 o)))
  have rsL_W4 : w.heap.size + 1 < ((w3.setCell ⟨w.heap.size, 0, none⟩ (.slice a3 n c3)).setCell ⟨w.heap.size, 1, none⟩ (.int .i64 N)).heap.size := by simpa using rsL_w3
  have oL_W4 : Hid (OwnG KSs 39 ((w3.setCell ⟨w.heap.size, 0, none⟩ (.slice a3 n c3)).setCell ⟨w.heap.size, 1, none⟩ (.int .i64 N)) (W2.heap.size) (.slice a3 n c3) (ls)) := hidP (OwnG.grown (OwnG.grown (oL_w3.out) (grown_cellG _ _ _ _) (OwnG.ne_of oL_w3.out (by have := as_W1.out; have := sz_W1.out; have := as_W2.out; have := sz_W2.out; have := sz_w3.out; omega))) (grown_cellG _ _ _ _) (OwnG.ne_of oL_w3.out (by have := as_W1.out; have := sz_W1.out; have := as_W2.out; have := sz_W2.out; have := sz_w3.out; omega)))
  have acc_W4 : Hid (Below w.heap.size w ((w3.setCell ⟨w.heap.size, 0, none⟩ (.slice a3 n c3)).setCell ⟨w.heap.size, 1, none⟩ (.int .i64 N))) := hidP (Below.setCell (Below.setCell (acc_w3.out) (by have := as_W1.out; have := sz_W1.out; have := as_W2.out; have := sz_W2.out; have := sz_w3.out; try dsimp only; omega) _) (by have := as_W1.out; have := sz_W1.out; have := as_W2.out; have := sz_W2.out; have := sz_w3.out; try dsimp only; omega) _)
  have sz_W4 : Hid (((w3.setCell ⟨w.heap.size, 0, none⟩ (.slice a3 n c3)).setCell ⟨w.heap.size, 1, none⟩ (.int .i64 N)).heap.size = w3.heap.size) := hidP (by simp)
  generalize (w3.setCell ⟨w.heap.size, 0, none⟩ (.slice a3 n c3)).setCell ⟨w.heap.size, 1, none⟩ (.int .i64 N) = W4 at *
  clear bk0_w3 bk1_w3 bkF_w3 bkL_w3 rs0_w3 rs1_w3 rsF_w3 rsL_w3 oL_w3 acc_w3
  have zG := own_zeroG KI W4 W4.heap.size 3 (Nat.le_refl _)
  rw [sz_W4.out] at zG
  have ab5 := alloc_below W4 (.cells #[] 3)
  have as5 : Hid ((W4.alloc (.cells #[] 3)).heap.size = W4.heap.size + 1) := hidP (by simp)
  generalize W4.alloc (.cells #[] 3) = W5 at *
  have bk0_W5 := (ab5.cell bkL_W4).trans bk0_W4
  have bk1_W5 := (ab5.cell bkL_W4).trans bk1_W4
  have bkF_W5 : ∀ o, W5.frozen? ⟨w.heap.size, o, none⟩ = false := fun o => (ab5.frozen bkL_W4).trans (bkF_W4 o)
  have bkL_W5 : w.heap.size < W5.heap.size := Nat.lt_of_lt_of_le bkL_W4 ab5.size
  have rs0_W5 := (ab5.cell rsL_W4).trans rs0_W4
  have rs1_W5 := (ab5.cell rsL_W4).trans rs1_W4
  have rsF_W5 : ∀ o, W5.frozen? ⟨w.heap.size + 1, o, none⟩ = false := fun o => (ab5.frozen rsL_W4).trans (rsF_W4 o)
  have rsL_W5 : w.heap.size + 1 < W5.heap.size := Nat.lt_of_lt_of_le rsL_W4 ab5.size
  have oL_W5 := hidP (OwnG.later oL_W4.out ab5)
  have acc_W5 := hidP (acc_W4.out.trans (ab5.mono acc_W4.out.size))
  have sz_W5 : Hid (W4.heap.size ≤ W5.heap.size) := hidP ab5.size
  clear ab5 bk0_W4 bk1_W4 bkF_W4 bkL_W4 rs0_W4 rs1_W4 rsF_W4 rsL_W4 oL_W4 acc_W4
  have oG_W5 := hidP (zG)
  clear zG
  refine (HIm.out _ a3 c3 oL_W5.out.row).mono ?_
  rintro e w6 ⟨rfl, hb6⟩
  have bk0_w6 := (hb6.cell bkL_W5).trans bk0_W5
  have bk1_w6 := (hb6.cell bkL_W5).trans bk1_W5
  have bkF_w6 : ∀ o, w6.frozen? ⟨w.heap.size, o, none⟩ = false := fun o => (hb6.frozen bkL_W5).trans (bkF_W5 o)
  have bkL_w6 : w.heap.size < w6.heap.size := Nat.lt_of_lt_of_le bkL_W5 hb6.size
  have rs0_w6 := (hb6.cell rsL_W5).trans rs0_W5
  have rs1_w6 := (hb6.cell rsL_W5).trans rs1_W5
  have rsF_w6 : ∀ o, w6.frozen? ⟨w.heap.size + 1, o, none⟩ = false := fun o => (hb6.frozen rsL_W5).trans (rsF_W5 o)
  have rsL_w6 : w.heap.size + 1 < w6.heap.size := Nat.lt_of_lt_of_le rsL_W5 hb6.size
  have oL_w6 := hidP (OwnG.later oL_W5.out hb6)
  have oG_w6 := hidP (OwnG.later oG_W5.out hb6)
  have acc_w6 := hidP (acc_W5.out.trans (hb6.mono acc_W5.out.size))
  have sz_w6 : Hid (W5.heap.size ≤ w6.heap.size) := hidP hb6.size
  clear hb6 bk0_W5 bk1_W5 bkF_W5 bkL_W5 rs0_W5 rs1_W5 rsF_W5 rsL_W5 oL_W5 oG_W5 acc_W5
  go_wp2_with fail
  refine bodyPost_ret (v := .tuple #[.agg #[.slice a3 n c3, .int .i64 N], .slice (some ⟨w3.heap.size, 0, none⟩) 0 0]) (by simp [results, Try.results16, go_sem, rs0_w6, rs1_w6]) rfl ⟨_, _, _, _, rfl, ?_, ?_, ?_, ?_⟩
  · refine OwnG.mono (B := W2.heap.size) ?_ (by have := as_W1.out; have := sz_W1.out; have := as_W2.out; have := sz_W2.out; have := sz_w3.out; have := sz_W4.out; have := as5.out; have := sz_W5.out; have := sz_w6.out; omega)
    iterate 2 (with_reducible refine OwnG.grown ?_ (grown_cellG _ _ _ _) ?_; rotate_left; (focus (exact OwnG.ne_of oL_w6.out (by have := as_W1.out; have := sz_W1.out; have := as_W2.out; have := sz_W2.out; have := sz_w3.out; have := sz_W4.out; have := as5.out; have := sz_W5.out; have := sz_w6.out; omega))))
    with_reducible exact oL_w6.out
  · refine OwnG.mono (B := w3.heap.size) ?_ (by have := as_W1.out; have := sz_W1.out; have := as_W2.out; have := sz_W2.out; have := sz_w3.out; have := sz_W4.out; have := as5.out; have := sz_W5.out; have := sz_w6.out; omega)
    iterate 2 (with_reducible refine OwnG.grown ?_ (grown_cellG _ _ _ _) ?_; rotate_left; (focus (exact OwnG.ne_of oG_w6.out (by have := as_W1.out; have := sz_W1.out; have := as_W2.out; have := sz_W2.out; have := sz_w3.out; have := sz_W4.out; have := as5.out; have := sz_W5.out; have := sz_w6.out; omega))))
    with_reducible exact oG_w6.out
  · intro k h1 h2
    have h3 := (lo3.out k h1).2
    rw [ob_some, Option.some.injEq] at h2
    have := as_W1.out; have := sz_W1.out; have := as_W2.out; have := sz_W2.out; have := sz_w3.out; have := sz_W4.out; have := as5.out; have := sz_W5.out; have := sz_w6.out; omega
  · repeat (with_reducible refine Below.setCell ?_ ?_ _; rotate_left; (focus (first | (simp; done) | (simp; omega))))
    exact acc_w6.out

set_option maxRecDepth 10000 in
set_option maxHeartbeats 4000000 in
theorem iEx_yes (a : Option Addr) (n c : Nat) (N : Int) (ls : List Ss) (w : World) (hn : n = ls.length) (hB : RowG KSs w a ls) (hl : n ≤ 1048576) (now : Int) (hr : dkB ls N = true) :
    Calls Try.prog 16 #[.agg #[.slice a n c, .int .i64 N], .int .i64 now] w fun e w' => ∃ a' c' b' d', e = .returned (.tuple #[.agg #[.slice a' (stayS now ls).length c', .int .i64 N], .slice b' (goneS now ls).length d']) ∧ OwnG KSs 39 w' w.heap.size (.slice a' (stayS now ls).length c') (stayS now ls) ∧ OwnG KI 3 w' w.heap.size (.slice b' (goneS now ls).length d') (goneS now ls) ∧ (∀ k, (Value.slice a' (stayS now ls).length c').ownBlock = some k → (Value.slice b' (goneS now ls).length d').ownBlock ≠ some k) ∧ Below w.heap.size w w' := by
  have HOw := hidP (fun W h => ownDesk_any a n c N ls W hn (hB.later h) hl)
  have HIm := hidP (fun W a c e1 => iDeskOk_any a n c N ls W hn e1 hl)
  have HN := hidP hn
  rw [hr] at HIm
  have hn12 : n ≤ 12 := by have := (dk_next hr).1; omega
  clear hB hn hr
  go_enter Try.func16, Try.ntmps16
  go_wp2_with fail
  obtain ⟨bk0_W1, bk1_W1⟩ := box2D w 26 (.slice a n c) (.int .i64 N)
  have bkF_W1 : ∀ o, (w.alloc (.cells #[.slice a n c, .int .i64 N] 26)).frozen? ⟨w.heap.size, o, none⟩ = false := fun o => by simp [go_sem]
  have bkL_W1 : w.heap.size < (w.alloc (.cells #[.slice a n c, .int .i64 N] 26)).heap.size := by simp
  have ab_W1 := alloc_below w (.cells #[.slice a n c, .int .i64 N] 26)
  have as_W1 : Hid ((w.alloc (.cells #[.slice a n c, .int .i64 N] 26)).heap.size = w.heap.size + 1) := hidP (by simp)
  generalize w.alloc (.cells #[.slice a n c, .int .i64 N] 26) = W1 at *
  have acc_W1 := hidP (ab_W1)
  have sz_W1 : Hid (w.heap.size ≤ W1.heap.size) := hidP ab_W1.size
  clear ab_W1 
  obtain ⟨rs0_W2, rs1_W2⟩ := box2D W1 26 (.slice none 0 0) (.int .i64 0)
  have rsF_W2 : ∀ o, (W1.alloc (.cells #[.slice none 0 0, .int .i64 0] 26)).frozen? ⟨W1.heap.size, o, none⟩ = false := fun o => by simp [go_sem]
  have rsL_W2 : W1.heap.size < (W1.alloc (.cells #[.slice none 0 0, .int .i64 0] 26)).heap.size := by simp
  have ab_W2 := alloc_below W1 (.cells #[.slice none 0 0, .int .i64 0] 26)
  have as_W2 : Hid ((W1.alloc (.cells #[.slice none 0 0, .int .i64 0] 26)).heap.size = W1.heap.size + 1) := hidP (by simp)
  generalize W1.alloc (.cells #[.slice none 0 0, .int .i64 0] 26) = W2 at *
  have bk0_W2 := (ab_W2.cell bkL_W1).trans bk0_W1
  have bk1_W2 := (ab_W2.cell bkL_W1).trans bk1_W1
  have bkF_W2 : ∀ o, W2.frozen? ⟨w.heap.size, o, none⟩ = false := fun o => (ab_W2.frozen bkL_W1).trans (bkF_W1 o)
  have bkL_W2 : w.heap.size < W2.heap.size := Nat.lt_of_lt_of_le bkL_W1 ab_W2.size
  have acc_W2 := hidP (acc_W1.out.trans (ab_W2.mono acc_W1.out.size))
  have sz_W2 : Hid (W1.heap.size ≤ W2.heap.size) := hidP ab_W2.size
  clear ab_W2 bk0_W1 bk1_W1 bkF_W1 bkL_W1 acc_W1
  rw [as_W1.out] at rs0_W2 rs1_W2 rsL_W2
  have rsF_W2' : ∀ o, W2.frozen? ⟨w.heap.size + 1, o, none⟩ = false := fun o => by have := rsF_W2 o; rw [as_W1.out] at this; exact this
  clear rsF_W2
  have rsF_W2 := rsF_W2'
  clear rsF_W2'
  refine (HOw.out _ acc_W2.out).mono ?_
  rintro e w3 ⟨a3, c3, rfl, og3, hb3⟩
  have lo3 := hidP (fun k hk => OwnG.lt og3 k hk)
  have OG := hidP og3
  clear og3
  have bk0_w3 := (hb3.cell bkL_W2).trans bk0_W2
  have bk1_w3 := (hb3.cell bkL_W2).trans bk1_W2
  have bkF_w3 : ∀ o, w3.frozen? ⟨w.heap.size, o, none⟩ = false := fun o => (hb3.frozen bkL_W2).trans (bkF_W2 o)
  have bkL_w3 : w.heap.size < w3.heap.size := Nat.lt_of_lt_of_le bkL_W2 hb3.size
  have rs0_w3 := (hb3.cell rsL_W2).trans rs0_W2
  have rs1_w3 := (hb3.cell rsL_W2).trans rs1_W2
  have rsF_w3 : ∀ o, w3.frozen? ⟨w.heap.size + 1, o, none⟩ = false := fun o => (hb3.frozen rsL_W2).trans (rsF_W2 o)
  have rsL_w3 : w.heap.size + 1 < w3.heap.size := Nat.lt_of_lt_of_le rsL_W2 hb3.size
  have acc_w3 := hidP (acc_W2.out.trans (hb3.mono acc_W2.out.size))
  have sz_w3 : Hid (W2.heap.size ≤ w3.heap.size) := hidP hb3.size
  clear hb3 bk0_W2 bk1_W2 bkF_W2 bkL_W2 rs0_W2 rs1_W2 rsF_W2 rsL_W2 acc_W2
  have oL_w3 := hidP (OG.out)
  clear OG
  go_wp2_with fail
  have bk0_W4 : ((w3.setCell ⟨w.heap.size, 0, none⟩ (.slice a3 n c3)).setCell ⟨w.heap.size, 1, none⟩ (.int .i64 N)).cell? ⟨w.heap.size, 0, none⟩ = some (.slice a3 n c3) := by simp [go_sem, bk0_w3]
  have bk1_W4 : ((w3.setCell ⟨w.heap.size, 0, none⟩ (.slice a3 n c3)).setCell ⟨w.heap.size, 1, none⟩ (.int .i64 N)).cell? ⟨w.heap.size, 1, none⟩ = some (.int .i64 N) := by simp [go_sem, bk1_w3]
  have bkF_W4 : ∀ o, ((w3.setCell ⟨w.heap.size, 0, none⟩ (.slice a3 n c3)).setCell ⟨w.heap.size, 1, none⟩ (.int .i64 N)).frozen? ⟨w.heap.size, o, none⟩ = false := fun o => frz_set1 (frz_set1 ((bkF_w3 o)))
  have bkL_W4 : w.heap.size < ((w3.setCell ⟨w.heap.size, 0, none⟩ (.slice a3 n c3)).setCell ⟨w.heap.size, 1, none⟩ (.int .i64 N)).heap.size := by simpa using bkL_w3
  have rs0_W4 : ((w3.setCell ⟨w.heap.size, 0, none⟩ (.slice a3 n c3)).setCell ⟨w.heap.size, 1, none⟩ (.int .i64 N)).cell? ⟨w.heap.size + 1, 0, none⟩ = some (.slice none 0 0) := cell_set1 (cell_set1 (rs0_w3) (by have := as_W1.out; have := sz_W1.out; have := as_W2.out; have := sz_W2.out; have := sz_w3.out; omega)) (by have := as_W1.out; have := sz_W1.out; have := as_W2.out; have := sz_W2.out; have := sz_w3.out; omega)
  have rs1_W4 : ((w3.setCell ⟨w.heap.size, 0, none⟩ (.slice a3 n c3)).setCell ⟨w.heap.size, 1, none⟩ (.int .i64 N)).cell? ⟨w.heap.size + 1, 1, none⟩ = some (.int .i64 0) := cell_set1 (cell_set1 (rs1_w3) (by have := as_W1.out; have := sz_W1.out; have := as_W2.out; have := sz_W2.out; have := sz_w3.out; omega)) (by have := as_W1.out; have := sz_W1.out; have := as_W2.out; have := sz_W2.out; have := sz_w3.out; omega)
  have rsF_W4 : ∀ o, ((w3.setCell ⟨w.heap.size, 0, none⟩ (.slice a3 n c3)).setCell ⟨w.heap.size, 1, none⟩ (.int .i64 N)).frozen? ⟨w.heap.size + 1, o, none⟩ = false := fun o => frz_set1 (frz_set1 ((rsF_w3 o)))
  have rsL_W4 : w.heap.size + 1 < ((w3.setCell ⟨w.heap.size, 0, none⟩ (.slice a3 n c3)).setCell ⟨w.heap.size, 1, none⟩ (.int .i64 N)).heap.size := by simpa using rsL_w3
  have oL_W4 : Hid (OwnG KSs 39 ((w3.setCell ⟨w.heap.size, 0, none⟩ (.slice a3 n c3)).setCell ⟨w.heap.size, 1, none⟩ (.int .i64 N)) (W2.heap.size) (.slice a3 n c3) (ls)) := hidP (OwnG.grown (OwnG.grown (oL_w3.out) (grown_cellG _ _ _ _) (OwnG.ne_of oL_w3.out (by have := as_W1.out; have := sz_W1.out; have := as_W2.out; have := sz_W2.out; have := sz_w3.out; omega))) (grown_cellG _ _ _ _) (OwnG.ne_of oL_w3.out (by have := as_W1.out; have := sz_W1.out; have := as_W2.out; have := sz_W2.out; have := sz_w3.out; omega)))
  have acc_W4 : Hid (Below w.heap.size w ((w3.setCell ⟨w.heap.size, 0, none⟩ (.slice a3 n c3)).setCell ⟨w.heap.size, 1, none⟩ (.int .i64 N))) := hidP (Below.setCell (Below.setCell (acc_w3.out) (by have := as_W1.out; have := sz_W1.out; have := as_W2.out; have := sz_W2.out; have := sz_w3.out; try dsimp only; omega) _) (by have := as_W1.out; have := sz_W1.out; have := as_W2.out; have := sz_W2.out; have := sz_w3.out; try dsimp only; omega) _)
  have sz_W4 : Hid (((w3.setCell ⟨w.heap.size, 0, none⟩ (.slice a3 n c3)).setCell ⟨w.heap.size, 1, none⟩ (.int .i64 N)).heap.size = w3.heap.size) := hidP (by simp)
  generalize (w3.setCell ⟨w.heap.size, 0, none⟩ (.slice a3 n c3)).setCell ⟨w.heap.size, 1, none⟩ (.int .i64 N) = W4 at *
  clear bk0_w3 bk1_w3 bkF_w3 bkL_w3 rs0_w3 rs1_w3 rsF_w3 rsL_w3 oL_w3 acc_w3
  have zG := own_zeroG KI W4 W4.heap.size 3 (Nat.le_refl _)
  rw [sz_W4.out] at zG
  have ab5 := alloc_below W4 (.cells #[] 3)
  have as5 : Hid ((W4.alloc (.cells #[] 3)).heap.size = W4.heap.size + 1) := hidP (by simp)
  generalize W4.alloc (.cells #[] 3) = W5 at *
  have bk0_W5 := (ab5.cell bkL_W4).trans bk0_W4
  have bk1_W5 := (ab5.cell bkL_W4).trans bk1_W4
  have bkF_W5 : ∀ o, W5.frozen? ⟨w.heap.size, o, none⟩ = false := fun o => (ab5.frozen bkL_W4).trans (bkF_W4 o)
  have bkL_W5 : w.heap.size < W5.heap.size := Nat.lt_of_lt_of_le bkL_W4 ab5.size
  have rs0_W5 := (ab5.cell rsL_W4).trans rs0_W4
  have rs1_W5 := (ab5.cell rsL_W4).trans rs1_W4
  have rsF_W5 : ∀ o, W5.frozen? ⟨w.heap.size + 1, o, none⟩ = false := fun o => (ab5.frozen rsL_W4).trans (rsF_W4 o)
  have rsL_W5 : w.heap.size + 1 < W5.heap.size := Nat.lt_of_lt_of_le rsL_W4 ab5.size
  have oL_W5 := hidP (OwnG.later oL_W4.out ab5)
  have acc_W5 := hidP (acc_W4.out.trans (ab5.mono acc_W4.out.size))
  have sz_W5 : Hid (W4.heap.size ≤ W5.heap.size) := hidP ab5.size
  clear ab5 bk0_W4 bk1_W4 bkF_W4 bkL_W4 rs0_W4 rs1_W4 rsF_W4 rsL_W4 oL_W4 acc_W4
  have oG_W5 := hidP (zG)
  clear zG
  refine (HIm.out _ a3 c3 oL_W5.out.row).mono ?_
  rintro e w6 ⟨rfl, hb6⟩
  have bk0_w6 := (hb6.cell bkL_W5).trans bk0_W5
  have bk1_w6 := (hb6.cell bkL_W5).trans bk1_W5
  have bkF_w6 : ∀ o, w6.frozen? ⟨w.heap.size, o, none⟩ = false := fun o => (hb6.frozen bkL_W5).trans (bkF_W5 o)
  have bkL_w6 : w.heap.size < w6.heap.size := Nat.lt_of_lt_of_le bkL_W5 hb6.size
  have rs0_w6 := (hb6.cell rsL_W5).trans rs0_W5
  have rs1_w6 := (hb6.cell rsL_W5).trans rs1_W5
  have rsF_w6 : ∀ o, w6.frozen? ⟨w.heap.size + 1, o, none⟩ = false := fun o => (hb6.frozen rsL_W5).trans (rsF_W5 o)
  have rsL_w6 : w.heap.size + 1 < w6.heap.size := Nat.lt_of_lt_of_le rsL_W5 hb6.size
  have oL_w6 := hidP (OwnG.later oL_W5.out hb6)
  have oG_w6 := hidP (OwnG.later oG_W5.out hb6)
  have acc_w6 := hidP (acc_W5.out.trans (hb6.mono acc_W5.out.size))
  have sz_w6 : Hid (W5.heap.size ≤ w6.heap.size) := hidP hb6.size
  clear hb6 bk0_W5 bk1_W5 bkF_W5 bkL_W5 rs0_W5 rs1_W5 rsF_W5 rsL_W5 oL_W5 oG_W5 acc_W5
  go_wp2_with fail
  have zS := own_zeroG KSs w6 w6.heap.size 39 (Nat.le_refl _)
  have ab8 := alloc_below w6 (.cells #[] 39)
  have as8 : Hid ((w6.alloc (.cells #[] 39)).heap.size = w6.heap.size + 1) := hidP (by simp)
  generalize w6.alloc (.cells #[] 39) = W8 at *
  have bk0_W8 := (ab8.cell bkL_w6).trans bk0_w6
  have bk1_W8 := (ab8.cell bkL_w6).trans bk1_w6
  have bkF_W8 : ∀ o, W8.frozen? ⟨w.heap.size, o, none⟩ = false := fun o => (ab8.frozen bkL_w6).trans (bkF_w6 o)
  have bkL_W8 : w.heap.size < W8.heap.size := Nat.lt_of_lt_of_le bkL_w6 ab8.size
  have rs0_W8 := (ab8.cell rsL_w6).trans rs0_w6
  have rs1_W8 := (ab8.cell rsL_w6).trans rs1_w6
  have rsF_W8 : ∀ o, W8.frozen? ⟨w.heap.size + 1, o, none⟩ = false := fun o => (ab8.frozen rsL_w6).trans (rsF_w6 o)
  have rsL_W8 : w.heap.size + 1 < W8.heap.size := Nat.lt_of_lt_of_le rsL_w6 ab8.size
  have oL_W8 := hidP (OwnG.later oL_w6.out ab8)
  have oG_W8 := hidP (OwnG.later oG_w6.out ab8)
  have acc_W8 := hidP (acc_w6.out.trans (ab8.mono acc_w6.out.size))
  have sz_W8 : Hid (w6.heap.size ≤ W8.heap.size) := hidP ab8.size
  clear ab8 bk0_w6 bk1_w6 bkF_w6 bkL_w6 rs0_w6 rs1_w6 rsF_w6 rsL_w6 oL_w6 oG_w6 acc_w6
  have HS0 := hidP zS
  clear zS
  have HQ : Hid (w3.heap.size ≤ w6.heap.size ∧ w3.heap.size ≤ W8.heap.size ∧ w3.heap.size < w6.heap.size ∧ w.heap.size + 1 < w3.heap.size ∧ w.heap.size < w3.heap.size) := hidP (by have := as_W1.out; have := sz_W1.out; have := as_W2.out; have := sz_W2.out; have := sz_w3.out; have := sz_W4.out; have := as5.out; have := sz_W5.out; have := sz_w6.out; have := as8.out; have := sz_W8.out; omega)
  have lo4 := hidP (fun k hk => show k < w3.heap.size by have h5 := (lo3.out k hk).2; have := as_W1.out; have := sz_W1.out; have := as_W2.out; have := sz_W2.out; have := sz_w3.out; have := sz_W4.out; have := as5.out; have := sz_W5.out; have := sz_w6.out; have := as8.out; have := sz_W8.out; omega)
  go_loopw [6, 7, 9, 22] (fun t6 t7 _ t22 wr => ∃ (k p6 p7 : Nat) (a6 : Option Addr) (c6 : Nat) (a7 : Option Addr) (c7 : Nat), k ≤ n ∧ t22 = .int .i64 k ∧ t6 = .slice a6 p6 c6 ∧ t7 = .slice a7 p7 c7 ∧ p6 = (goneS now (ls.take k)).length ∧ p7 = (stayS now (ls.take k)).length ∧ OwnG KI 3 wr w3.heap.size (.slice a6 p6 c6) (goneS now (ls.take k)) ∧ OwnG KSs 39 wr w3.heap.size (.slice a7 p7 c7) (stayS now (ls.take k)) ∧ (∀ j, (Value.slice a7 p7 c7).ownBlock = some j → (Value.slice a6 p6 c6).ownBlock ≠ some j) ∧ Below w3.heap.size W8 wr) (fun _ _ _ t22 _ => n - (intOf t22).toNat)
  case atStart => exact ⟨0, 0, 0, some ⟨w3.heap.size, 0, none⟩, 0, _, 0, Nat.zero_le _, rfl, rfl, rfl, rfl, rfl, oG_W8.out, HS0.out.mono HQ.out.1, (fun j hj he => by rw [ob_some, Option.some.injEq] at hj he; have := HQ.out; omega), Below.refl _ _⟩
  case round =>
    obtain ⟨k, p6, p7, a6, c6, a7, c7, hk, rfl, rfl, rfl, hp6, hp7, ho6, ho7, hdj, hbel⟩ := hrel
    have hsz8 := hbel.size
    have hGr : w3.heap.size ≤ wr.heap.size := Nat.le_trans HQ.out.2.1 hsz8
    have HBel := hidP hbel
    have HDj := hidP hdj
    have HP67 := hidP (And.intro hp6 hp7)
    have hp6k : p6 ≤ 80 := by rw [hp6]; have := (stay_len now (ls.take k)).2; rw [List.length_take] at this; omega
    have hp7k : p7 ≤ 80 := by rw [hp7]; have := (stay_len now (ls.take k)).1; rw [List.length_take] at this; omega
    have HO6 := hidP ho6
    have HO7 := hidP ho7
    clear hp6 hp7 ho6 ho7 hdj
    by_cases hlt : k < n
    · obtain ⟨g3, rfl⟩ := own_some oL_W8.out (by omega)
      obtain ⟨q, hgl, hq, c0, c1, c2, c3'⟩ := rowSs0 oL_W8.out k (by rw [← HN.out]; exact hlt)
      have g3G := lo4.out g3 rfl
      have d0 := (hbel.cell g3G).trans c0
      have d1 := (hbel.cell g3G).trans c1
      have d2 := (hbel.cell g3G).trans c2
      have d3 := (hbel.cell g3G).trans c3'
      have HQk := hidP hq
      have HEn := hidP (fun W c3 => endedBy_any wr.heap.size 0 q.u now W c3)
      clear c0 c1 c2 c3' hq hbel
      cases hu : decide (q.u < now)
      · have HSt := hidP (stay_yes HQk.out hu)
        rw [hu] at HEn
        have hyS : (wr.alloc (.cells #[.int .i64 q.i, .int .i64 q.l, .string q.t, .int .i64 q.u] 39)).heap.size = wr.heap.size + 1 := by simp
        have one := own_oneG KSs (wr.alloc (.cells #[.int .i64 q.i, .int .i64 q.l, .string q.t, .int .i64 q.u] 39)) 0 39 (q) (Nat.zero_le _)
        rw [hyS] at one
        have hB2 : Below wr.heap.size wr ((wr.alloc (.cells #[.int .i64 q.i, .int .i64 q.l, .string q.t, .int .i64 q.u] 39)).alloc (.cells #[.int .i64 q.i, .int .i64 q.l, .string q.t, .int .i64 q.u] 39)) := (alloc_below wr _).alloc (by simp) _
        have HZ := hidP (And.intro one (And.intro hB2 (And.intro (OwnG.later HO6.out hB2) (OwnG.later HO7.out hB2))))
        clear one hB2 hyS
        go_wp2_with fail
        refine (HEn.out _ (by simp [go_sem])).mono ?_
        rintro e w9' ⟨rfl, hw9⟩
        rw [hw9]
        clear hw9 w9'
        go_wp2_with (at_builtin; refine wpList_appG Try.tySs _ rfl (.tmp 33) (.tmp 35) 24 rfl w3.heap.size a7 p7 c7 1 (stayS now (ls.take k)) [q] (.slice (some ⟨wr.heap.size + 1, 0, none⟩) 1 1) rfl HP67.out.2 rfl HZ.out.2.2.2 rfl (src_rowG Try.tySs.1 1 1 (by show 0 < 4; omega) rfl HZ.out.1.row (fun h => by cases h)) (by omega) (by simp; omega) ?_; intro a9 c9 w9 ho9 hg9 ht9)
        have HA := hidP (And.intro ho9 (And.intro hg9 ht9))
        clear ho9 hg9 ht9
        go_roundw
        case rel =>
          have hz6 := fun j hj => (OwnG.lt HO6.out j hj).2
          have hz7 := fun j hj => (OwnG.lt HO7.out j hj).2
          refine ⟨k + 1, p6, p7 + 1, a6, c6, a9, c9, by omega, by go_num, rfl, rfl, ?_, ?_, ?_, ?_, ?_, ?_⟩
          · rw [HSt.out.2]; exact HP67.out.1
          · rw [HSt.out.1]; rw [List.length_append, ← HP67.out.2]; rfl
          · rw [HSt.out.2]
            exact OwnG.grown HZ.out.2.2.1 HA.out.2.1 (fun j hj he => HDj.out j he hj)
          · rw [HSt.out.1]
            exact HA.out.1
          · intro j h7 h6
            rcases HA.out.2.2 with h | h
            · rw [h] at h7
              exact HDj.out j ((ob_len a7 p7 c7 (p7 + 1) c9).trans h7) h6
            · rw [h, ob_some, Option.some.injEq] at h7
              have h8 := hz6 j h6
              simp at h7
              omega
          · exact below_appG (HBel.out.trans (HZ.out.2.1.mono hGr)) HZ.out.2.2.2 (by simp; omega) HA.out.2.1
        case measure => simp [intOf]; omega
      · have HSt := hidP (stay_no HQk.out hu)
        rw [hu] at HEn
        have hyS : (wr.alloc (.cells #[.int .i64 q.i, .int .i64 q.l, .string q.t, .int .i64 q.u] 39)).heap.size = wr.heap.size + 1 := by simp
        have one := own_oneG KI (wr.alloc (.cells #[.int .i64 q.i, .int .i64 q.l, .string q.t, .int .i64 q.u] 39)) 0 3 (q.i) (Nat.zero_le _)
        rw [hyS] at one
        have hB2 : Below wr.heap.size wr ((wr.alloc (.cells #[.int .i64 q.i, .int .i64 q.l, .string q.t, .int .i64 q.u] 39)).alloc (.cells #[.int .i64 q.i] 3)) := (alloc_below wr _).alloc (by simp) _
        have HZ := hidP (And.intro one (And.intro hB2 (And.intro (OwnG.later HO6.out hB2) (OwnG.later HO7.out hB2))))
        clear one hB2 hyS
        go_wp2_with fail
        refine (HEn.out _ (by simp [go_sem])).mono ?_
        rintro e w9' ⟨rfl, hw9⟩
        rw [hw9]
        clear hw9 w9'
        go_wp2_with (at_builtin; refine wpList_appG Try.tyI _ rfl (.tmp 28) (.tmp 31) 40 rfl w3.heap.size a6 p6 c6 1 (goneS now (ls.take k)) [q.i] (.slice (some ⟨wr.heap.size + 1, 0, none⟩) 1 1) rfl HP67.out.1 rfl HZ.out.2.2.1 rfl (src_rowG Try.tyI.1 1 1 (by show 0 < 1; omega) rfl HZ.out.1.row (fun h => by cases h)) (by omega) (by simp; omega) ?_; intro a9 c9 w9 ho9 hg9 ht9)
        have HA := hidP (And.intro ho9 (And.intro hg9 ht9))
        clear ho9 hg9 ht9
        go_roundw
        case rel =>
          have hz6 := fun j hj => (OwnG.lt HO6.out j hj).2
          have hz7 := fun j hj => (OwnG.lt HO7.out j hj).2
          refine ⟨k + 1, p6 + 1, p7, a9, c9, a7, c7, by omega, by go_num, rfl, rfl, ?_, ?_, ?_, ?_, ?_, ?_⟩
          · rw [HSt.out.2]; rw [List.length_append, ← HP67.out.1]; rfl
          · rw [HSt.out.1]; exact HP67.out.2
          · rw [HSt.out.2]
            exact HA.out.1
          · rw [HSt.out.1]
            exact OwnG.grown HZ.out.2.2.2 HA.out.2.1 (fun j hj he => HDj.out j hj he)
          · intro j h7 h6
            rcases HA.out.2.2 with h | h
            · rw [h] at h6
              exact HDj.out j h7 ((ob_len a6 p6 c6 (p6 + 1) c9).trans h6)
            · rw [h, ob_some, Option.some.injEq] at h6
              have h8 := hz7 j h7
              simp at h6
              omega
          · exact below_appG (HBel.out.trans (HZ.out.2.1.mono hGr)) HZ.out.2.2.1 (by simp; omega) HA.out.2.1
        case measure => simp [intOf]; omega
    · have hkn : k = n := by omega
      have HF6 : Hid (OwnG KI 3 wr w3.heap.size (.slice a6 p6 c6) (goneS now ls) ∧ OwnG KSs 39 wr w3.heap.size (.slice a7 p7 c7) (stayS now ls) ∧ p6 = (goneS now ls).length ∧ p7 = (stayS now ls).length) := hidP (by
        have h6 := HO6.out; have h7 := HO7.out; have h8 := HP67.out
        rw [hkn, List.take_of_length_le (by have := HN.out; omega)] at h6 h7 h8
        exact ⟨h6, h7, h8.1, h8.2⟩)
      have qb0 := (hbel.cell HQ.out.2.2.2.2).trans bk0_W8
      have qb1 := (hbel.cell HQ.out.2.2.2.2).trans bk1_W8
      have qbF : ∀ o, wr.frozen? ⟨w.heap.size, o, none⟩ = false := fun o => (hbel.frozen HQ.out.2.2.2.2).trans (bkF_W8 o)
      have qr0 := (hbel.cell HQ.out.2.2.2.1).trans rs0_W8
      have qr1 := (hbel.cell HQ.out.2.2.2.1).trans rs1_W8
      have qrF : ∀ o, wr.frozen? ⟨w.heap.size + 1, o, none⟩ = false := fun o => (hbel.frozen HQ.out.2.2.2.1).trans (rsF_W8 o)
      have qL : w.heap.size < wr.heap.size := by have := HQ.out; omega
      have qM : w.heap.size + 1 < wr.heap.size := by have := HQ.out; omega
      have HAc := hidP (acc_W8.out.trans (hbel.mono (Nat.le_of_lt HQ.out.2.2.2.2)))
      clear hbel HO6 HO7 HP67 bk0_W8 bk1_W8 bkF_W8 rs0_W8 rs1_W8 rsF_W8
      go_wp2_with fail
      have HE := HF6.out
      obtain ⟨e6, e7, e8, e9⟩ := HE
      rw [e8] at e6
      rw [e9] at e7
      refine bodyPost_ret (v := .tuple #[.agg #[.slice a7 p7 c7, .int .i64 N], .slice a6 p6 c6]) (by simp [results, Try.results16, go_sem, qr0, qr1]) rfl ⟨a7, c7, a6, c6, by rw [e8, e9], ?_, ?_, ?_, ?_⟩
      · refine OwnG.mono (B := w3.heap.size) ?_ (Nat.le_of_lt HQ.out.2.2.2.2)
        iterate 3 (with_reducible refine OwnG.grown ?_ (grown_cellG _ _ _ _) ?_; rotate_left; (focus (exact OwnG.ne_of e7 (by have := HQ.out; omega))))
        with_reducible exact e7
      · refine OwnG.mono (B := w3.heap.size) ?_ (Nat.le_of_lt HQ.out.2.2.2.2)
        iterate 3 (with_reducible refine OwnG.grown ?_ (grown_cellG _ _ _ _) ?_; rotate_left; (focus (exact OwnG.ne_of e6 (by have := HQ.out; omega))))
        with_reducible exact e6
      · rw [← e8, ← e9]; exact HDj.out
      · repeat (with_reducible refine Below.setCell ?_ ?_ _; rotate_left; (focus (first | (simp; done) | (simp; omega))))
        exact HAc.out

end Go.Proofs.Ytjenbmiiikeenaa
