/-
  The program's Advance.
-/
import Derived.Test.YtddnofonodgneaaGreatDoorV6Own
import Derived.Test.YtddnofonodgneaaGreatDoorV6Tok
import Derived.Test.YtddnofonodgneaaGreatDoorRAdr
namespace Go.Proofs.YtddnofonodgneaaGreatDoor
open Go.RowKit

def stayL (now : Int) (ls : List Ls) : List Ls := ls.filter (fun x => decide (now < x.u))
def goneL (now : Int) (ls : List Ls) : List Ad := (ls.filter (fun x => !decide (now < x.u))).map Ls.a
theorem stay_yes {now : Int} {ls : List Ls} {k : Nat} {q : Ls} (h : ls[k]? = some q) (hu : decide (now < q.u) = true) : stayL now (ls.take (k + 1)) = stayL now (ls.take k) ++ [q] ∧ goneL now (ls.take (k + 1)) = goneL now (ls.take k) := by
  unfold stayL goneL
  rw [← take_at h, List.filter_append, List.filter_append]
  simp [hu]
theorem stay_no {now : Int} {ls : List Ls} {k : Nat} {q : Ls} (h : ls[k]? = some q) (hu : decide (now < q.u) = false) : stayL now (ls.take (k + 1)) = stayL now (ls.take k) ∧ goneL now (ls.take (k + 1)) = goneL now (ls.take k) ++ [q.a] := by
  unfold stayL goneL
  rw [← take_at h, List.filter_append, List.filter_append]
  simp [hu]
theorem stay_len (now : Int) (ls : List Ls) : (stayL now ls).length ≤ ls.length ∧ (goneL now ls).length ≤ ls.length := by
  unfold stayL goneL
  exact ⟨List.length_filter_le _ _, by rw [List.length_map]; exact List.length_filter_le _ _⟩
theorem cell_set1 {w : World} {b o x o' : Nat} {u v : Value} (h : w.cell? ⟨b, o, none⟩ = some u) (hne : b ≠ x) : (w.setCell ⟨x, o', none⟩ v).cell? ⟨b, o, none⟩ = some u := by
  rw [World.cell?_of_block (w := w) ((grown_cellG w x o' v).block b (World.block_lt_of_cell? w _ h) (fun e => hne (by simpa using e)))]
  exact h
theorem frz_set1 {w : World} {b o x o' : Nat} {v : Value} (h : w.frozen? ⟨b, o, none⟩ = false) : (w.setCell ⟨x, o', none⟩ v).frozen? ⟨b, o, none⟩ = false := by
  simpa [go_sem] using h
theorem own_some {α : Type} {K : Kd α} {t : TypeId} {w : World} {B n c : Nat} {a : Option Addr} {ps : List α} (h : OwnG K t w B (.slice a n c) ps) (hn : 0 < n) : ∃ g, a = some ⟨g, 0, none⟩ := by
  rcases h.2 with ⟨hv, _⟩ | ⟨g, cap', cur, hv, _⟩
  · simp at hv; omega
  · simp at hv; exact ⟨g, hv.1⟩
theorem ob_len (a : Option Addr) (n c n' c' : Nat) : (Value.slice a n c).ownBlock = (Value.slice a n' c').ownBlock := by cases a <;> rfl

set_option maxRecDepth 10000 in
set_option maxHeartbeats 4000000 in
theorem iAdv_no (a : Option Addr) (n c : Nat) (T N : Int) (ls : List Ls) (w : World) (hn : n = ls.length) (hB : RowG KLs w a ls) (hl : n ≤ 1048576) (hst : ∀ q ∈ ls, q.t.size ≤ 9223372036854775807) (now : Int) (hr : (bkB ls T N && (decide (N < now) && decide (now ≤ 1000000000))) = false) :
    Calls Tryz.prog 15 #[.agg #[.slice a n c, .int .i64 T, .int .i64 N], .int .i64 now] w fun e w' => ∃ a' c' b' d', e = .returned (.tuple #[.agg #[.slice a' n c', .int .i64 T, .int .i64 N], .slice b' 0 d']) ∧ OwnG KLs 35 w' w.heap.size (.slice a' n c') (ls) ∧ OwnG KAd 28 w' w.heap.size (.slice b' 0 d') ([]) ∧ (∀ k, (Value.slice a' n c').ownBlock = some k → (Value.slice b' 0 d').ownBlock ≠ some k) ∧ Below w.heap.size w w' := by
  have HOw := hidP (fun W h => ownBook_any a n c T N ls W hn (hB.later h) hl)
  have HIm := hidP (fun W a c e1 => iBookOk_any a n c T N ls W hn e1 hl hst)
  have HN := hidP hn
  clear hB hn hst
  cases hb : bkB ls T N
  · rw [hb] at HIm
    clear hr
    go_enter Tryz.func15, Tryz.ntmps15
    go_wp2_with fail
    obtain ⟨bk0_W1, bk1_W1, bk2_W1⟩ := box3B w 26 (.slice a n c) (.int .i64 T) (.int .i64 N)
    have bkF_W1 : ∀ o, (w.alloc (.cells #[.slice a n c, .int .i64 T, .int .i64 N] 26)).frozen? ⟨w.heap.size, o, none⟩ = false := fun o => by simp [go_sem]
    have bkL_W1 : w.heap.size < (w.alloc (.cells #[.slice a n c, .int .i64 T, .int .i64 N] 26)).heap.size := by simp
    have ab_W1 := alloc_below w (.cells #[.slice a n c, .int .i64 T, .int .i64 N] 26)
    have as_W1 : Hid ((w.alloc (.cells #[.slice a n c, .int .i64 T, .int .i64 N] 26)).heap.size = w.heap.size + 1) := hidP (by simp)
    generalize w.alloc (.cells #[.slice a n c, .int .i64 T, .int .i64 N] 26) = W1 at *
    have acc_W1 := hidP (ab_W1)
    have sz_W1 : Hid (w.heap.size ≤ W1.heap.size) := hidP ab_W1.size
    clear ab_W1 
    obtain ⟨rs0_W2, rs1_W2, rs2_W2⟩ := box3B W1 26 (.slice none 0 0) (.int .i64 0) (.int .i64 0)
    have rsF_W2 : ∀ o, (W1.alloc (.cells #[.slice none 0 0, .int .i64 0, .int .i64 0] 26)).frozen? ⟨W1.heap.size, o, none⟩ = false := fun o => by simp [go_sem]
    have rsL_W2 : W1.heap.size < (W1.alloc (.cells #[.slice none 0 0, .int .i64 0, .int .i64 0] 26)).heap.size := by simp
    have ab_W2 := alloc_below W1 (.cells #[.slice none 0 0, .int .i64 0, .int .i64 0] 26)
    have as_W2 : Hid ((W1.alloc (.cells #[.slice none 0 0, .int .i64 0, .int .i64 0] 26)).heap.size = W1.heap.size + 1) := hidP (by simp)
    generalize W1.alloc (.cells #[.slice none 0 0, .int .i64 0, .int .i64 0] 26) = W2 at *
    have bk0_W2 := (ab_W2.cell bkL_W1).trans bk0_W1
    have bk1_W2 := (ab_W2.cell bkL_W1).trans bk1_W1
    have bk2_W2 := (ab_W2.cell bkL_W1).trans bk2_W1
    have bkF_W2 : ∀ o, W2.frozen? ⟨w.heap.size, o, none⟩ = false := fun o => (ab_W2.frozen bkL_W1).trans (bkF_W1 o)
    have bkL_W2 : w.heap.size < W2.heap.size := Nat.lt_of_lt_of_le bkL_W1 ab_W2.size
    have acc_W2 := hidP (acc_W1.out.trans (ab_W2.mono acc_W1.out.size))
    have sz_W2 : Hid (W1.heap.size ≤ W2.heap.size) := hidP ab_W2.size
    clear ab_W2 bk0_W1 bk1_W1 bk2_W1 bkF_W1 bkL_W1 acc_W1
    have eW1 := as_W1.out
    rw [eW1] at rs0_W2 rs1_W2 rs2_W2 rsL_W2
    have rsF_W2' : ∀ o, W2.frozen? ⟨w.heap.size + 1, o, none⟩ = false := fun o => by have := rsF_W2 o; rw [eW1] at this; exact this
    clear rsF_W2 eW1
    have rsF_W2 := rsF_W2'
    clear rsF_W2'
    refine (HOw.out _ acc_W2.out).mono ?_
    rintro e w3 ⟨a3, c3, rfl, og3, hb3⟩
    have lo3 := hidP (fun k hk => OwnG.lt og3 k hk)
    have og3' := hidP og3
    clear og3
    have bk0_w3 := (hb3.cell bkL_W2).trans bk0_W2
    have bk1_w3 := (hb3.cell bkL_W2).trans bk1_W2
    have bk2_w3 := (hb3.cell bkL_W2).trans bk2_W2
    have bkF_w3 : ∀ o, w3.frozen? ⟨w.heap.size, o, none⟩ = false := fun o => (hb3.frozen bkL_W2).trans (bkF_W2 o)
    have bkL_w3 : w.heap.size < w3.heap.size := Nat.lt_of_lt_of_le bkL_W2 hb3.size
    have rs0_w3 := (hb3.cell rsL_W2).trans rs0_W2
    have rs1_w3 := (hb3.cell rsL_W2).trans rs1_W2
    have rs2_w3 := (hb3.cell rsL_W2).trans rs2_W2
    have rsF_w3 : ∀ o, w3.frozen? ⟨w.heap.size + 1, o, none⟩ = false := fun o => (hb3.frozen rsL_W2).trans (rsF_W2 o)
    have rsL_w3 : w.heap.size + 1 < w3.heap.size := Nat.lt_of_lt_of_le rsL_W2 hb3.size
    have acc_w3 := hidP (acc_W2.out.trans (hb3.mono acc_W2.out.size))
    have sz_w3 : Hid (W2.heap.size ≤ w3.heap.size) := hidP hb3.size
    clear hb3 bk0_W2 bk1_W2 bk2_W2 bkF_W2 bkL_W2 rs0_W2 rs1_W2 rs2_W2 rsF_W2 rsL_W2 acc_W2
    have oL_w3 := hidP (og3'.out)
    go_wp2_with fail
    have bk0_W4 : (((w3.setCell ⟨w.heap.size, 0, none⟩ (.slice a3 n c3)).setCell ⟨w.heap.size, 1, none⟩ (.int .i64 T)).setCell ⟨w.heap.size, 2, none⟩ (.int .i64 N)).cell? ⟨w.heap.size, 0, none⟩ = some (.slice a3 n c3) := by simp [go_sem, bk0_w3]
    have bk1_W4 : (((w3.setCell ⟨w.heap.size, 0, none⟩ (.slice a3 n c3)).setCell ⟨w.heap.size, 1, none⟩ (.int .i64 T)).setCell ⟨w.heap.size, 2, none⟩ (.int .i64 N)).cell? ⟨w.heap.size, 1, none⟩ = some (.int .i64 T) := by simp [go_sem, bk1_w3]
    have bk2_W4 : (((w3.setCell ⟨w.heap.size, 0, none⟩ (.slice a3 n c3)).setCell ⟨w.heap.size, 1, none⟩ (.int .i64 T)).setCell ⟨w.heap.size, 2, none⟩ (.int .i64 N)).cell? ⟨w.heap.size, 2, none⟩ = some (.int .i64 N) := by simp [go_sem, bk2_w3]
    have bkF_W4 : ∀ o, (((w3.setCell ⟨w.heap.size, 0, none⟩ (.slice a3 n c3)).setCell ⟨w.heap.size, 1, none⟩ (.int .i64 T)).setCell ⟨w.heap.size, 2, none⟩ (.int .i64 N)).frozen? ⟨w.heap.size, o, none⟩ = false := fun o => frz_set1 (frz_set1 (frz_set1 ((bkF_w3 o))))
    have bkL_W4 : w.heap.size < (((w3.setCell ⟨w.heap.size, 0, none⟩ (.slice a3 n c3)).setCell ⟨w.heap.size, 1, none⟩ (.int .i64 T)).setCell ⟨w.heap.size, 2, none⟩ (.int .i64 N)).heap.size := by simpa using bkL_w3
    have rs0_W4 : (((w3.setCell ⟨w.heap.size, 0, none⟩ (.slice a3 n c3)).setCell ⟨w.heap.size, 1, none⟩ (.int .i64 T)).setCell ⟨w.heap.size, 2, none⟩ (.int .i64 N)).cell? ⟨w.heap.size + 1, 0, none⟩ = some (.slice none 0 0) := cell_set1 (cell_set1 (cell_set1 (rs0_w3) (by have := as_W1.out; have := sz_W1.out; have := as_W2.out; have := sz_W2.out; have := sz_w3.out; omega)) (by have := as_W1.out; have := sz_W1.out; have := as_W2.out; have := sz_W2.out; have := sz_w3.out; omega)) (by have := as_W1.out; have := sz_W1.out; have := as_W2.out; have := sz_W2.out; have := sz_w3.out; omega)
    have rs1_W4 : (((w3.setCell ⟨w.heap.size, 0, none⟩ (.slice a3 n c3)).setCell ⟨w.heap.size, 1, none⟩ (.int .i64 T)).setCell ⟨w.heap.size, 2, none⟩ (.int .i64 N)).cell? ⟨w.heap.size + 1, 1, none⟩ = some (.int .i64 0) := cell_set1 (cell_set1 (cell_set1 (rs1_w3) (by have := as_W1.out; have := sz_W1.out; have := as_W2.out; have := sz_W2.out; have := sz_w3.out; omega)) (by have := as_W1.out; have := sz_W1.out; have := as_W2.out; have := sz_W2.out; have := sz_w3.out; omega)) (by have := as_W1.out; have := sz_W1.out; have := as_W2.out; have := sz_W2.out; have := sz_w3.out; omega)
    have rs2_W4 : (((w3.setCell ⟨w.heap.size, 0, none⟩ (.slice a3 n c3)).setCell ⟨w.heap.size, 1, none⟩ (.int .i64 T)).setCell ⟨w.heap.size, 2, none⟩ (.int .i64 N)).cell? ⟨w.heap.size + 1, 2, none⟩ = some (.int .i64 0) := cell_set1 (cell_set1 (cell_set1 (rs2_w3) (by have := as_W1.out; have := sz_W1.out; have := as_W2.out; have := sz_W2.out; have := sz_w3.out; omega)) (by have := as_W1.out; have := sz_W1.out; have := as_W2.out; have := sz_W2.out; have := sz_w3.out; omega)) (by have := as_W1.out; have := sz_W1.out; have := as_W2.out; have := sz_W2.out; have := sz_w3.out; omega)
    have rsF_W4 : ∀ o, (((w3.setCell ⟨w.heap.size, 0, none⟩ (.slice a3 n c3)).setCell ⟨w.heap.size, 1, none⟩ (.int .i64 T)).setCell ⟨w.heap.size, 2, none⟩ (.int .i64 N)).frozen? ⟨w.heap.size + 1, o, none⟩ = false := fun o => frz_set1 (frz_set1 (frz_set1 ((rsF_w3 o))))
    have rsL_W4 : w.heap.size + 1 < (((w3.setCell ⟨w.heap.size, 0, none⟩ (.slice a3 n c3)).setCell ⟨w.heap.size, 1, none⟩ (.int .i64 T)).setCell ⟨w.heap.size, 2, none⟩ (.int .i64 N)).heap.size := by simpa using rsL_w3
    have oL_W4 : Hid (OwnG KLs 35 (((w3.setCell ⟨w.heap.size, 0, none⟩ (.slice a3 n c3)).setCell ⟨w.heap.size, 1, none⟩ (.int .i64 T)).setCell ⟨w.heap.size, 2, none⟩ (.int .i64 N)) (W2.heap.size) (.slice a3 n c3) (ls)) := hidP (OwnG.grown (OwnG.grown (OwnG.grown (oL_w3.out) (grown_cellG _ _ _ _) (OwnG.ne_of oL_w3.out (by have := as_W1.out; have := sz_W1.out; have := as_W2.out; have := sz_W2.out; have := sz_w3.out; omega))) (grown_cellG _ _ _ _) (OwnG.ne_of oL_w3.out (by have := as_W1.out; have := sz_W1.out; have := as_W2.out; have := sz_W2.out; have := sz_w3.out; omega))) (grown_cellG _ _ _ _) (OwnG.ne_of oL_w3.out (by have := as_W1.out; have := sz_W1.out; have := as_W2.out; have := sz_W2.out; have := sz_w3.out; omega)))
    have acc_W4 : Hid (Below w.heap.size w (((w3.setCell ⟨w.heap.size, 0, none⟩ (.slice a3 n c3)).setCell ⟨w.heap.size, 1, none⟩ (.int .i64 T)).setCell ⟨w.heap.size, 2, none⟩ (.int .i64 N))) := hidP (Below.setCell (Below.setCell (Below.setCell (acc_w3.out) (by have := as_W1.out; have := sz_W1.out; have := as_W2.out; have := sz_W2.out; have := sz_w3.out; try dsimp only; omega) _) (by have := as_W1.out; have := sz_W1.out; have := as_W2.out; have := sz_W2.out; have := sz_w3.out; try dsimp only; omega) _) (by have := as_W1.out; have := sz_W1.out; have := as_W2.out; have := sz_W2.out; have := sz_w3.out; try dsimp only; omega) _)
    have sz_W4 : Hid ((((w3.setCell ⟨w.heap.size, 0, none⟩ (.slice a3 n c3)).setCell ⟨w.heap.size, 1, none⟩ (.int .i64 T)).setCell ⟨w.heap.size, 2, none⟩ (.int .i64 N)).heap.size = w3.heap.size) := hidP (by simp)
    generalize ((w3.setCell ⟨w.heap.size, 0, none⟩ (.slice a3 n c3)).setCell ⟨w.heap.size, 1, none⟩ (.int .i64 T)).setCell ⟨w.heap.size, 2, none⟩ (.int .i64 N) = W4 at *
    clear bk0_w3 bk1_w3 bk2_w3 bkF_w3 bkL_w3 rs0_w3 rs1_w3 rs2_w3 rsF_w3 rsL_w3 oL_w3 acc_w3
    have zG := own_zeroG KAd W4 W4.heap.size 28 (Nat.le_refl _)
    rw [sz_W4.out] at zG
    have ab5 := alloc_below W4 (.cells #[] 28)
    have as5 : Hid ((W4.alloc (.cells #[] 28)).heap.size = W4.heap.size + 1) := hidP (by simp)
    generalize W4.alloc (.cells #[] 28) = W5 at *
    have bk0_W5 := (ab5.cell bkL_W4).trans bk0_W4
    have bk1_W5 := (ab5.cell bkL_W4).trans bk1_W4
    have bk2_W5 := (ab5.cell bkL_W4).trans bk2_W4
    have bkF_W5 : ∀ o, W5.frozen? ⟨w.heap.size, o, none⟩ = false := fun o => (ab5.frozen bkL_W4).trans (bkF_W4 o)
    have bkL_W5 : w.heap.size < W5.heap.size := Nat.lt_of_lt_of_le bkL_W4 ab5.size
    have rs0_W5 := (ab5.cell rsL_W4).trans rs0_W4
    have rs1_W5 := (ab5.cell rsL_W4).trans rs1_W4
    have rs2_W5 := (ab5.cell rsL_W4).trans rs2_W4
    have rsF_W5 : ∀ o, W5.frozen? ⟨w.heap.size + 1, o, none⟩ = false := fun o => (ab5.frozen rsL_W4).trans (rsF_W4 o)
    have rsL_W5 : w.heap.size + 1 < W5.heap.size := Nat.lt_of_lt_of_le rsL_W4 ab5.size
    have oL_W5 := hidP (OwnG.later oL_W4.out ab5)
    have acc_W5 := hidP (acc_W4.out.trans (ab5.mono acc_W4.out.size))
    have sz_W5 : Hid (W4.heap.size ≤ W5.heap.size) := hidP ab5.size
    clear ab5 bk0_W4 bk1_W4 bk2_W4 bkF_W4 bkL_W4 rs0_W4 rs1_W4 rs2_W4 rsF_W4 rsL_W4 oL_W4 acc_W4
    have oG_W5 := hidP (zG)
    clear zG
    refine (HIm.out _ a3 c3 oL_W5.out.row).mono ?_
    rintro e w6 ⟨rfl, hb6⟩
    have bk0_w6 := (hb6.cell bkL_W5).trans bk0_W5
    have bk1_w6 := (hb6.cell bkL_W5).trans bk1_W5
    have bk2_w6 := (hb6.cell bkL_W5).trans bk2_W5
    have bkF_w6 : ∀ o, w6.frozen? ⟨w.heap.size, o, none⟩ = false := fun o => (hb6.frozen bkL_W5).trans (bkF_W5 o)
    have bkL_w6 : w.heap.size < w6.heap.size := Nat.lt_of_lt_of_le bkL_W5 hb6.size
    have rs0_w6 := (hb6.cell rsL_W5).trans rs0_W5
    have rs1_w6 := (hb6.cell rsL_W5).trans rs1_W5
    have rs2_w6 := (hb6.cell rsL_W5).trans rs2_W5
    have rsF_w6 : ∀ o, w6.frozen? ⟨w.heap.size + 1, o, none⟩ = false := fun o => (hb6.frozen rsL_W5).trans (rsF_W5 o)
    have rsL_w6 : w.heap.size + 1 < w6.heap.size := Nat.lt_of_lt_of_le rsL_W5 hb6.size
    have oL_w6 := hidP (OwnG.later oL_W5.out hb6)
    have oG_w6 := hidP (OwnG.later oG_W5.out hb6)
    have acc_w6 := hidP (acc_W5.out.trans (hb6.mono acc_W5.out.size))
    have sz_w6 : Hid (W5.heap.size ≤ w6.heap.size) := hidP hb6.size
    clear hb6 bk0_W5 bk1_W5 bk2_W5 bkF_W5 bkL_W5 rs0_W5 rs1_W5 rs2_W5 rsF_W5 rsL_W5 oL_W5 oG_W5 acc_W5
    go_wp2_with fail
    refine bodyPost_ret (v := .tuple #[.agg #[.slice a3 n c3, .int .i64 T, .int .i64 N], .slice (some ⟨w3.heap.size, 0, none⟩) 0 0]) (by simp [results, Tryz.results15, go_sem, rs0_w6, rs1_w6, rs2_w6]) rfl ⟨_, _, _, _, rfl, ?_, ?_, ?_, ?_⟩
    · refine OwnG.mono (B := W2.heap.size) ?_ (by have := as_W1.out; have := sz_W1.out; have := as_W2.out; have := sz_W2.out; have := sz_w3.out; have := sz_W4.out; have := as5.out; have := sz_W5.out; have := sz_w6.out; omega)
      iterate 3 (with_reducible refine OwnG.grown ?_ (grown_cellG _ _ _ _) ?_; rotate_left; (focus (exact OwnG.ne_of oL_w6.out (by have := as_W1.out; have := sz_W1.out; have := as_W2.out; have := sz_W2.out; have := sz_w3.out; have := sz_W4.out; have := as5.out; have := sz_W5.out; have := sz_w6.out; omega))))
      with_reducible exact oL_w6.out
    · refine OwnG.mono (B := w3.heap.size) ?_ (by have := as_W1.out; have := sz_W1.out; have := as_W2.out; have := sz_W2.out; have := sz_w3.out; have := sz_W4.out; have := as5.out; have := sz_W5.out; have := sz_w6.out; omega)
      iterate 3 (with_reducible refine OwnG.grown ?_ (grown_cellG _ _ _ _) ?_; rotate_left; (focus (exact OwnG.ne_of oG_w6.out (by have := as_W1.out; have := sz_W1.out; have := as_W2.out; have := sz_W2.out; have := sz_w3.out; have := sz_W4.out; have := as5.out; have := sz_W5.out; have := sz_w6.out; omega))))
      with_reducible exact oG_w6.out
    · intro k h1 h2
      have h3 := (lo3.out k h1).2
      rw [ob_some, Option.some.injEq] at h2
      have := as_W1.out; have := sz_W1.out; have := as_W2.out; have := sz_W2.out; have := sz_w3.out; have := sz_W4.out; have := as5.out; have := sz_W5.out; have := sz_w6.out
      omega
    · repeat (with_reducible refine Below.setCell ?_ ?_ _; rotate_left; (focus (first | (simp; done) | (simp; omega))))
      exact acc_w6.out
  · rw [hb] at HIm hr
    rw [Bool.true_and] at hr
    cases h1 : decide (now ≤ N)
    · have h2 : decide ((1000000000 : Int) < now) = true := by
        have h1' := of_decide_eq_false h1
        rw [decide_eq_true (by omega : N < now), Bool.true_and] at hr
        have := of_decide_eq_false hr
        exact decide_eq_true (by omega)
      clear hr
      go_enter Tryz.func15, Tryz.ntmps15
      go_wp2_with fail
      obtain ⟨bk0_W1, bk1_W1, bk2_W1⟩ := box3B w 26 (.slice a n c) (.int .i64 T) (.int .i64 N)
      have bkF_W1 : ∀ o, (w.alloc (.cells #[.slice a n c, .int .i64 T, .int .i64 N] 26)).frozen? ⟨w.heap.size, o, none⟩ = false := fun o => by simp [go_sem]
      have bkL_W1 : w.heap.size < (w.alloc (.cells #[.slice a n c, .int .i64 T, .int .i64 N] 26)).heap.size := by simp
      have ab_W1 := alloc_below w (.cells #[.slice a n c, .int .i64 T, .int .i64 N] 26)
      have as_W1 : Hid ((w.alloc (.cells #[.slice a n c, .int .i64 T, .int .i64 N] 26)).heap.size = w.heap.size + 1) := hidP (by simp)
      generalize w.alloc (.cells #[.slice a n c, .int .i64 T, .int .i64 N] 26) = W1 at *
      have acc_W1 := hidP (ab_W1)
      have sz_W1 : Hid (w.heap.size ≤ W1.heap.size) := hidP ab_W1.size
      clear ab_W1 
      obtain ⟨rs0_W2, rs1_W2, rs2_W2⟩ := box3B W1 26 (.slice none 0 0) (.int .i64 0) (.int .i64 0)
      have rsF_W2 : ∀ o, (W1.alloc (.cells #[.slice none 0 0, .int .i64 0, .int .i64 0] 26)).frozen? ⟨W1.heap.size, o, none⟩ = false := fun o => by simp [go_sem]
      have rsL_W2 : W1.heap.size < (W1.alloc (.cells #[.slice none 0 0, .int .i64 0, .int .i64 0] 26)).heap.size := by simp
      have ab_W2 := alloc_below W1 (.cells #[.slice none 0 0, .int .i64 0, .int .i64 0] 26)
      have as_W2 : Hid ((W1.alloc (.cells #[.slice none 0 0, .int .i64 0, .int .i64 0] 26)).heap.size = W1.heap.size + 1) := hidP (by simp)
      generalize W1.alloc (.cells #[.slice none 0 0, .int .i64 0, .int .i64 0] 26) = W2 at *
      have bk0_W2 := (ab_W2.cell bkL_W1).trans bk0_W1
      have bk1_W2 := (ab_W2.cell bkL_W1).trans bk1_W1
      have bk2_W2 := (ab_W2.cell bkL_W1).trans bk2_W1
      have bkF_W2 : ∀ o, W2.frozen? ⟨w.heap.size, o, none⟩ = false := fun o => (ab_W2.frozen bkL_W1).trans (bkF_W1 o)
      have bkL_W2 : w.heap.size < W2.heap.size := Nat.lt_of_lt_of_le bkL_W1 ab_W2.size
      have acc_W2 := hidP (acc_W1.out.trans (ab_W2.mono acc_W1.out.size))
      have sz_W2 : Hid (W1.heap.size ≤ W2.heap.size) := hidP ab_W2.size
      clear ab_W2 bk0_W1 bk1_W1 bk2_W1 bkF_W1 bkL_W1 acc_W1
      have eW1 := as_W1.out
      rw [eW1] at rs0_W2 rs1_W2 rs2_W2 rsL_W2
      have rsF_W2' : ∀ o, W2.frozen? ⟨w.heap.size + 1, o, none⟩ = false := fun o => by have := rsF_W2 o; rw [eW1] at this; exact this
      clear rsF_W2 eW1
      have rsF_W2 := rsF_W2'
      clear rsF_W2'
      refine (HOw.out _ acc_W2.out).mono ?_
      rintro e w3 ⟨a3, c3, rfl, og3, hb3⟩
      have lo3 := hidP (fun k hk => OwnG.lt og3 k hk)
      have og3' := hidP og3
      clear og3
      have bk0_w3 := (hb3.cell bkL_W2).trans bk0_W2
      have bk1_w3 := (hb3.cell bkL_W2).trans bk1_W2
      have bk2_w3 := (hb3.cell bkL_W2).trans bk2_W2
      have bkF_w3 : ∀ o, w3.frozen? ⟨w.heap.size, o, none⟩ = false := fun o => (hb3.frozen bkL_W2).trans (bkF_W2 o)
      have bkL_w3 : w.heap.size < w3.heap.size := Nat.lt_of_lt_of_le bkL_W2 hb3.size
      have rs0_w3 := (hb3.cell rsL_W2).trans rs0_W2
      have rs1_w3 := (hb3.cell rsL_W2).trans rs1_W2
      have rs2_w3 := (hb3.cell rsL_W2).trans rs2_W2
      have rsF_w3 : ∀ o, w3.frozen? ⟨w.heap.size + 1, o, none⟩ = false := fun o => (hb3.frozen rsL_W2).trans (rsF_W2 o)
      have rsL_w3 : w.heap.size + 1 < w3.heap.size := Nat.lt_of_lt_of_le rsL_W2 hb3.size
      have acc_w3 := hidP (acc_W2.out.trans (hb3.mono acc_W2.out.size))
      have sz_w3 : Hid (W2.heap.size ≤ w3.heap.size) := hidP hb3.size
      clear hb3 bk0_W2 bk1_W2 bk2_W2 bkF_W2 bkL_W2 rs0_W2 rs1_W2 rs2_W2 rsF_W2 rsL_W2 acc_W2
      have oL_w3 := hidP (og3'.out)
      go_wp2_with fail
      have bk0_W4 : (((w3.setCell ⟨w.heap.size, 0, none⟩ (.slice a3 n c3)).setCell ⟨w.heap.size, 1, none⟩ (.int .i64 T)).setCell ⟨w.heap.size, 2, none⟩ (.int .i64 N)).cell? ⟨w.heap.size, 0, none⟩ = some (.slice a3 n c3) := by simp [go_sem, bk0_w3]
      have bk1_W4 : (((w3.setCell ⟨w.heap.size, 0, none⟩ (.slice a3 n c3)).setCell ⟨w.heap.size, 1, none⟩ (.int .i64 T)).setCell ⟨w.heap.size, 2, none⟩ (.int .i64 N)).cell? ⟨w.heap.size, 1, none⟩ = some (.int .i64 T) := by simp [go_sem, bk1_w3]
      have bk2_W4 : (((w3.setCell ⟨w.heap.size, 0, none⟩ (.slice a3 n c3)).setCell ⟨w.heap.size, 1, none⟩ (.int .i64 T)).setCell ⟨w.heap.size, 2, none⟩ (.int .i64 N)).cell? ⟨w.heap.size, 2, none⟩ = some (.int .i64 N) := by simp [go_sem, bk2_w3]
      have bkF_W4 : ∀ o, (((w3.setCell ⟨w.heap.size, 0, none⟩ (.slice a3 n c3)).setCell ⟨w.heap.size, 1, none⟩ (.int .i64 T)).setCell ⟨w.heap.size, 2, none⟩ (.int .i64 N)).frozen? ⟨w.heap.size, o, none⟩ = false := fun o => frz_set1 (frz_set1 (frz_set1 ((bkF_w3 o))))
      have bkL_W4 : w.heap.size < (((w3.setCell ⟨w.heap.size, 0, none⟩ (.slice a3 n c3)).setCell ⟨w.heap.size, 1, none⟩ (.int .i64 T)).setCell ⟨w.heap.size, 2, none⟩ (.int .i64 N)).heap.size := by simpa using bkL_w3
      have rs0_W4 : (((w3.setCell ⟨w.heap.size, 0, none⟩ (.slice a3 n c3)).setCell ⟨w.heap.size, 1, none⟩ (.int .i64 T)).setCell ⟨w.heap.size, 2, none⟩ (.int .i64 N)).cell? ⟨w.heap.size + 1, 0, none⟩ = some (.slice none 0 0) := cell_set1 (cell_set1 (cell_set1 (rs0_w3) (by have := as_W1.out; have := sz_W1.out; have := as_W2.out; have := sz_W2.out; have := sz_w3.out; omega)) (by have := as_W1.out; have := sz_W1.out; have := as_W2.out; have := sz_W2.out; have := sz_w3.out; omega)) (by have := as_W1.out; have := sz_W1.out; have := as_W2.out; have := sz_W2.out; have := sz_w3.out; omega)
      have rs1_W4 : (((w3.setCell ⟨w.heap.size, 0, none⟩ (.slice a3 n c3)).setCell ⟨w.heap.size, 1, none⟩ (.int .i64 T)).setCell ⟨w.heap.size, 2, none⟩ (.int .i64 N)).cell? ⟨w.heap.size + 1, 1, none⟩ = some (.int .i64 0) := cell_set1 (cell_set1 (cell_set1 (rs1_w3) (by have := as_W1.out; have := sz_W1.out; have := as_W2.out; have := sz_W2.out; have := sz_w3.out; omega)) (by have := as_W1.out; have := sz_W1.out; have := as_W2.out; have := sz_W2.out; have := sz_w3.out; omega)) (by have := as_W1.out; have := sz_W1.out; have := as_W2.out; have := sz_W2.out; have := sz_w3.out; omega)
      have rs2_W4 : (((w3.setCell ⟨w.heap.size, 0, none⟩ (.slice a3 n c3)).setCell ⟨w.heap.size, 1, none⟩ (.int .i64 T)).setCell ⟨w.heap.size, 2, none⟩ (.int .i64 N)).cell? ⟨w.heap.size + 1, 2, none⟩ = some (.int .i64 0) := cell_set1 (cell_set1 (cell_set1 (rs2_w3) (by have := as_W1.out; have := sz_W1.out; have := as_W2.out; have := sz_W2.out; have := sz_w3.out; omega)) (by have := as_W1.out; have := sz_W1.out; have := as_W2.out; have := sz_W2.out; have := sz_w3.out; omega)) (by have := as_W1.out; have := sz_W1.out; have := as_W2.out; have := sz_W2.out; have := sz_w3.out; omega)
      have rsF_W4 : ∀ o, (((w3.setCell ⟨w.heap.size, 0, none⟩ (.slice a3 n c3)).setCell ⟨w.heap.size, 1, none⟩ (.int .i64 T)).setCell ⟨w.heap.size, 2, none⟩ (.int .i64 N)).frozen? ⟨w.heap.size + 1, o, none⟩ = false := fun o => frz_set1 (frz_set1 (frz_set1 ((rsF_w3 o))))
      have rsL_W4 : w.heap.size + 1 < (((w3.setCell ⟨w.heap.size, 0, none⟩ (.slice a3 n c3)).setCell ⟨w.heap.size, 1, none⟩ (.int .i64 T)).setCell ⟨w.heap.size, 2, none⟩ (.int .i64 N)).heap.size := by simpa using rsL_w3
      have oL_W4 : Hid (OwnG KLs 35 (((w3.setCell ⟨w.heap.size, 0, none⟩ (.slice a3 n c3)).setCell ⟨w.heap.size, 1, none⟩ (.int .i64 T)).setCell ⟨w.heap.size, 2, none⟩ (.int .i64 N)) (W2.heap.size) (.slice a3 n c3) (ls)) := hidP (OwnG.grown (OwnG.grown (OwnG.grown (oL_w3.out) (grown_cellG _ _ _ _) (OwnG.ne_of oL_w3.out (by have := as_W1.out; have := sz_W1.out; have := as_W2.out; have := sz_W2.out; have := sz_w3.out; omega))) (grown_cellG _ _ _ _) (OwnG.ne_of oL_w3.out (by have := as_W1.out; have := sz_W1.out; have := as_W2.out; have := sz_W2.out; have := sz_w3.out; omega))) (grown_cellG _ _ _ _) (OwnG.ne_of oL_w3.out (by have := as_W1.out; have := sz_W1.out; have := as_W2.out; have := sz_W2.out; have := sz_w3.out; omega)))
      have acc_W4 : Hid (Below w.heap.size w (((w3.setCell ⟨w.heap.size, 0, none⟩ (.slice a3 n c3)).setCell ⟨w.heap.size, 1, none⟩ (.int .i64 T)).setCell ⟨w.heap.size, 2, none⟩ (.int .i64 N))) := hidP (Below.setCell (Below.setCell (Below.setCell (acc_w3.out) (by have := as_W1.out; have := sz_W1.out; have := as_W2.out; have := sz_W2.out; have := sz_w3.out; try dsimp only; omega) _) (by have := as_W1.out; have := sz_W1.out; have := as_W2.out; have := sz_W2.out; have := sz_w3.out; try dsimp only; omega) _) (by have := as_W1.out; have := sz_W1.out; have := as_W2.out; have := sz_W2.out; have := sz_w3.out; try dsimp only; omega) _)
      have sz_W4 : Hid ((((w3.setCell ⟨w.heap.size, 0, none⟩ (.slice a3 n c3)).setCell ⟨w.heap.size, 1, none⟩ (.int .i64 T)).setCell ⟨w.heap.size, 2, none⟩ (.int .i64 N)).heap.size = w3.heap.size) := hidP (by simp)
      generalize ((w3.setCell ⟨w.heap.size, 0, none⟩ (.slice a3 n c3)).setCell ⟨w.heap.size, 1, none⟩ (.int .i64 T)).setCell ⟨w.heap.size, 2, none⟩ (.int .i64 N) = W4 at *
      clear bk0_w3 bk1_w3 bk2_w3 bkF_w3 bkL_w3 rs0_w3 rs1_w3 rs2_w3 rsF_w3 rsL_w3 oL_w3 acc_w3
      have zG := own_zeroG KAd W4 W4.heap.size 28 (Nat.le_refl _)
      rw [sz_W4.out] at zG
      have ab5 := alloc_below W4 (.cells #[] 28)
      have as5 : Hid ((W4.alloc (.cells #[] 28)).heap.size = W4.heap.size + 1) := hidP (by simp)
      generalize W4.alloc (.cells #[] 28) = W5 at *
      have bk0_W5 := (ab5.cell bkL_W4).trans bk0_W4
      have bk1_W5 := (ab5.cell bkL_W4).trans bk1_W4
      have bk2_W5 := (ab5.cell bkL_W4).trans bk2_W4
      have bkF_W5 : ∀ o, W5.frozen? ⟨w.heap.size, o, none⟩ = false := fun o => (ab5.frozen bkL_W4).trans (bkF_W4 o)
      have bkL_W5 : w.heap.size < W5.heap.size := Nat.lt_of_lt_of_le bkL_W4 ab5.size
      have rs0_W5 := (ab5.cell rsL_W4).trans rs0_W4
      have rs1_W5 := (ab5.cell rsL_W4).trans rs1_W4
      have rs2_W5 := (ab5.cell rsL_W4).trans rs2_W4
      have rsF_W5 : ∀ o, W5.frozen? ⟨w.heap.size + 1, o, none⟩ = false := fun o => (ab5.frozen rsL_W4).trans (rsF_W4 o)
      have rsL_W5 : w.heap.size + 1 < W5.heap.size := Nat.lt_of_lt_of_le rsL_W4 ab5.size
      have oL_W5 := hidP (OwnG.later oL_W4.out ab5)
      have acc_W5 := hidP (acc_W4.out.trans (ab5.mono acc_W4.out.size))
      have sz_W5 : Hid (W4.heap.size ≤ W5.heap.size) := hidP ab5.size
      clear ab5 bk0_W4 bk1_W4 bk2_W4 bkF_W4 bkL_W4 rs0_W4 rs1_W4 rs2_W4 rsF_W4 rsL_W4 oL_W4 acc_W4
      have oG_W5 := hidP (zG)
      clear zG
      refine (HIm.out _ a3 c3 oL_W5.out.row).mono ?_
      rintro e w6 ⟨rfl, hb6⟩
      have bk0_w6 := (hb6.cell bkL_W5).trans bk0_W5
      have bk1_w6 := (hb6.cell bkL_W5).trans bk1_W5
      have bk2_w6 := (hb6.cell bkL_W5).trans bk2_W5
      have bkF_w6 : ∀ o, w6.frozen? ⟨w.heap.size, o, none⟩ = false := fun o => (hb6.frozen bkL_W5).trans (bkF_W5 o)
      have bkL_w6 : w.heap.size < w6.heap.size := Nat.lt_of_lt_of_le bkL_W5 hb6.size
      have rs0_w6 := (hb6.cell rsL_W5).trans rs0_W5
      have rs1_w6 := (hb6.cell rsL_W5).trans rs1_W5
      have rs2_w6 := (hb6.cell rsL_W5).trans rs2_W5
      have rsF_w6 : ∀ o, w6.frozen? ⟨w.heap.size + 1, o, none⟩ = false := fun o => (hb6.frozen rsL_W5).trans (rsF_W5 o)
      have rsL_w6 : w.heap.size + 1 < w6.heap.size := Nat.lt_of_lt_of_le rsL_W5 hb6.size
      have oL_w6 := hidP (OwnG.later oL_W5.out hb6)
      have oG_w6 := hidP (OwnG.later oG_W5.out hb6)
      have acc_w6 := hidP (acc_W5.out.trans (hb6.mono acc_W5.out.size))
      have sz_w6 : Hid (W5.heap.size ≤ w6.heap.size) := hidP hb6.size
      clear hb6 bk0_W5 bk1_W5 bk2_W5 bkF_W5 bkL_W5 rs0_W5 rs1_W5 rs2_W5 rsF_W5 rsL_W5 oL_W5 oG_W5 acc_W5
      go_wp2_with fail
      refine bodyPost_ret (v := .tuple #[.agg #[.slice a3 n c3, .int .i64 T, .int .i64 N], .slice (some ⟨w3.heap.size, 0, none⟩) 0 0]) (by simp [results, Tryz.results15, go_sem, rs0_w6, rs1_w6, rs2_w6]) rfl ⟨_, _, _, _, rfl, ?_, ?_, ?_, ?_⟩
      · refine OwnG.mono (B := W2.heap.size) ?_ (by have := as_W1.out; have := sz_W1.out; have := as_W2.out; have := sz_W2.out; have := sz_w3.out; have := sz_W4.out; have := as5.out; have := sz_W5.out; have := sz_w6.out; omega)
        iterate 3 (with_reducible refine OwnG.grown ?_ (grown_cellG _ _ _ _) ?_; rotate_left; (focus (exact OwnG.ne_of oL_w6.out (by have := as_W1.out; have := sz_W1.out; have := as_W2.out; have := sz_W2.out; have := sz_w3.out; have := sz_W4.out; have := as5.out; have := sz_W5.out; have := sz_w6.out; omega))))
        with_reducible exact oL_w6.out
      · refine OwnG.mono (B := w3.heap.size) ?_ (by have := as_W1.out; have := sz_W1.out; have := as_W2.out; have := sz_W2.out; have := sz_w3.out; have := sz_W4.out; have := as5.out; have := sz_W5.out; have := sz_w6.out; omega)
        iterate 3 (with_reducible refine OwnG.grown ?_ (grown_cellG _ _ _ _) ?_; rotate_left; (focus (exact OwnG.ne_of oG_w6.out (by have := as_W1.out; have := sz_W1.out; have := as_W2.out; have := sz_W2.out; have := sz_w3.out; have := sz_W4.out; have := as5.out; have := sz_W5.out; have := sz_w6.out; omega))))
        with_reducible exact oG_w6.out
      · intro k h1 h2
        have h3 := (lo3.out k h1).2
        rw [ob_some, Option.some.injEq] at h2
        have := as_W1.out; have := sz_W1.out; have := as_W2.out; have := sz_W2.out; have := sz_w3.out; have := sz_W4.out; have := as5.out; have := sz_W5.out; have := sz_w6.out
        omega
      · repeat (with_reducible refine Below.setCell ?_ ?_ _; rotate_left; (focus (first | (simp; done) | (simp; omega))))
        exact acc_w6.out
    · clear hr
      go_enter Tryz.func15, Tryz.ntmps15
      go_wp2_with fail
      obtain ⟨bk0_W1, bk1_W1, bk2_W1⟩ := box3B w 26 (.slice a n c) (.int .i64 T) (.int .i64 N)
      have bkF_W1 : ∀ o, (w.alloc (.cells #[.slice a n c, .int .i64 T, .int .i64 N] 26)).frozen? ⟨w.heap.size, o, none⟩ = false := fun o => by simp [go_sem]
      have bkL_W1 : w.heap.size < (w.alloc (.cells #[.slice a n c, .int .i64 T, .int .i64 N] 26)).heap.size := by simp
      have ab_W1 := alloc_below w (.cells #[.slice a n c, .int .i64 T, .int .i64 N] 26)
      have as_W1 : Hid ((w.alloc (.cells #[.slice a n c, .int .i64 T, .int .i64 N] 26)).heap.size = w.heap.size + 1) := hidP (by simp)
      generalize w.alloc (.cells #[.slice a n c, .int .i64 T, .int .i64 N] 26) = W1 at *
      have acc_W1 := hidP (ab_W1)
      have sz_W1 : Hid (w.heap.size ≤ W1.heap.size) := hidP ab_W1.size
      clear ab_W1 
      obtain ⟨rs0_W2, rs1_W2, rs2_W2⟩ := box3B W1 26 (.slice none 0 0) (.int .i64 0) (.int .i64 0)
      have rsF_W2 : ∀ o, (W1.alloc (.cells #[.slice none 0 0, .int .i64 0, .int .i64 0] 26)).frozen? ⟨W1.heap.size, o, none⟩ = false := fun o => by simp [go_sem]
      have rsL_W2 : W1.heap.size < (W1.alloc (.cells #[.slice none 0 0, .int .i64 0, .int .i64 0] 26)).heap.size := by simp
      have ab_W2 := alloc_below W1 (.cells #[.slice none 0 0, .int .i64 0, .int .i64 0] 26)
      have as_W2 : Hid ((W1.alloc (.cells #[.slice none 0 0, .int .i64 0, .int .i64 0] 26)).heap.size = W1.heap.size + 1) := hidP (by simp)
      generalize W1.alloc (.cells #[.slice none 0 0, .int .i64 0, .int .i64 0] 26) = W2 at *
      have bk0_W2 := (ab_W2.cell bkL_W1).trans bk0_W1
      have bk1_W2 := (ab_W2.cell bkL_W1).trans bk1_W1
      have bk2_W2 := (ab_W2.cell bkL_W1).trans bk2_W1
      have bkF_W2 : ∀ o, W2.frozen? ⟨w.heap.size, o, none⟩ = false := fun o => (ab_W2.frozen bkL_W1).trans (bkF_W1 o)
      have bkL_W2 : w.heap.size < W2.heap.size := Nat.lt_of_lt_of_le bkL_W1 ab_W2.size
      have acc_W2 := hidP (acc_W1.out.trans (ab_W2.mono acc_W1.out.size))
      have sz_W2 : Hid (W1.heap.size ≤ W2.heap.size) := hidP ab_W2.size
      clear ab_W2 bk0_W1 bk1_W1 bk2_W1 bkF_W1 bkL_W1 acc_W1
      have eW1 := as_W1.out
      rw [eW1] at rs0_W2 rs1_W2 rs2_W2 rsL_W2
      have rsF_W2' : ∀ o, W2.frozen? ⟨w.heap.size + 1, o, none⟩ = false := fun o => by have := rsF_W2 o; rw [eW1] at this; exact this
      clear rsF_W2 eW1
      have rsF_W2 := rsF_W2'
      clear rsF_W2'
      refine (HOw.out _ acc_W2.out).mono ?_
      rintro e w3 ⟨a3, c3, rfl, og3, hb3⟩
      have lo3 := hidP (fun k hk => OwnG.lt og3 k hk)
      have og3' := hidP og3
      clear og3
      have bk0_w3 := (hb3.cell bkL_W2).trans bk0_W2
      have bk1_w3 := (hb3.cell bkL_W2).trans bk1_W2
      have bk2_w3 := (hb3.cell bkL_W2).trans bk2_W2
      have bkF_w3 : ∀ o, w3.frozen? ⟨w.heap.size, o, none⟩ = false := fun o => (hb3.frozen bkL_W2).trans (bkF_W2 o)
      have bkL_w3 : w.heap.size < w3.heap.size := Nat.lt_of_lt_of_le bkL_W2 hb3.size
      have rs0_w3 := (hb3.cell rsL_W2).trans rs0_W2
      have rs1_w3 := (hb3.cell rsL_W2).trans rs1_W2
      have rs2_w3 := (hb3.cell rsL_W2).trans rs2_W2
      have rsF_w3 : ∀ o, w3.frozen? ⟨w.heap.size + 1, o, none⟩ = false := fun o => (hb3.frozen rsL_W2).trans (rsF_W2 o)
      have rsL_w3 : w.heap.size + 1 < w3.heap.size := Nat.lt_of_lt_of_le rsL_W2 hb3.size
      have acc_w3 := hidP (acc_W2.out.trans (hb3.mono acc_W2.out.size))
      have sz_w3 : Hid (W2.heap.size ≤ w3.heap.size) := hidP hb3.size
      clear hb3 bk0_W2 bk1_W2 bk2_W2 bkF_W2 bkL_W2 rs0_W2 rs1_W2 rs2_W2 rsF_W2 rsL_W2 acc_W2
      have oL_w3 := hidP (og3'.out)
      go_wp2_with fail
      have bk0_W4 : (((w3.setCell ⟨w.heap.size, 0, none⟩ (.slice a3 n c3)).setCell ⟨w.heap.size, 1, none⟩ (.int .i64 T)).setCell ⟨w.heap.size, 2, none⟩ (.int .i64 N)).cell? ⟨w.heap.size, 0, none⟩ = some (.slice a3 n c3) := by simp [go_sem, bk0_w3]
      have bk1_W4 : (((w3.setCell ⟨w.heap.size, 0, none⟩ (.slice a3 n c3)).setCell ⟨w.heap.size, 1, none⟩ (.int .i64 T)).setCell ⟨w.heap.size, 2, none⟩ (.int .i64 N)).cell? ⟨w.heap.size, 1, none⟩ = some (.int .i64 T) := by simp [go_sem, bk1_w3]
      have bk2_W4 : (((w3.setCell ⟨w.heap.size, 0, none⟩ (.slice a3 n c3)).setCell ⟨w.heap.size, 1, none⟩ (.int .i64 T)).setCell ⟨w.heap.size, 2, none⟩ (.int .i64 N)).cell? ⟨w.heap.size, 2, none⟩ = some (.int .i64 N) := by simp [go_sem, bk2_w3]
      have bkF_W4 : ∀ o, (((w3.setCell ⟨w.heap.size, 0, none⟩ (.slice a3 n c3)).setCell ⟨w.heap.size, 1, none⟩ (.int .i64 T)).setCell ⟨w.heap.size, 2, none⟩ (.int .i64 N)).frozen? ⟨w.heap.size, o, none⟩ = false := fun o => frz_set1 (frz_set1 (frz_set1 ((bkF_w3 o))))
      have bkL_W4 : w.heap.size < (((w3.setCell ⟨w.heap.size, 0, none⟩ (.slice a3 n c3)).setCell ⟨w.heap.size, 1, none⟩ (.int .i64 T)).setCell ⟨w.heap.size, 2, none⟩ (.int .i64 N)).heap.size := by simpa using bkL_w3
      have rs0_W4 : (((w3.setCell ⟨w.heap.size, 0, none⟩ (.slice a3 n c3)).setCell ⟨w.heap.size, 1, none⟩ (.int .i64 T)).setCell ⟨w.heap.size, 2, none⟩ (.int .i64 N)).cell? ⟨w.heap.size + 1, 0, none⟩ = some (.slice none 0 0) := cell_set1 (cell_set1 (cell_set1 (rs0_w3) (by have := as_W1.out; have := sz_W1.out; have := as_W2.out; have := sz_W2.out; have := sz_w3.out; omega)) (by have := as_W1.out; have := sz_W1.out; have := as_W2.out; have := sz_W2.out; have := sz_w3.out; omega)) (by have := as_W1.out; have := sz_W1.out; have := as_W2.out; have := sz_W2.out; have := sz_w3.out; omega)
      have rs1_W4 : (((w3.setCell ⟨w.heap.size, 0, none⟩ (.slice a3 n c3)).setCell ⟨w.heap.size, 1, none⟩ (.int .i64 T)).setCell ⟨w.heap.size, 2, none⟩ (.int .i64 N)).cell? ⟨w.heap.size + 1, 1, none⟩ = some (.int .i64 0) := cell_set1 (cell_set1 (cell_set1 (rs1_w3) (by have := as_W1.out; have := sz_W1.out; have := as_W2.out; have := sz_W2.out; have := sz_w3.out; omega)) (by have := as_W1.out; have := sz_W1.out; have := as_W2.out; have := sz_W2.out; have := sz_w3.out; omega)) (by have := as_W1.out; have := sz_W1.out; have := as_W2.out; have := sz_W2.out; have := sz_w3.out; omega)
      have rs2_W4 : (((w3.setCell ⟨w.heap.size, 0, none⟩ (.slice a3 n c3)).setCell ⟨w.heap.size, 1, none⟩ (.int .i64 T)).setCell ⟨w.heap.size, 2, none⟩ (.int .i64 N)).cell? ⟨w.heap.size + 1, 2, none⟩ = some (.int .i64 0) := cell_set1 (cell_set1 (cell_set1 (rs2_w3) (by have := as_W1.out; have := sz_W1.out; have := as_W2.out; have := sz_W2.out; have := sz_w3.out; omega)) (by have := as_W1.out; have := sz_W1.out; have := as_W2.out; have := sz_W2.out; have := sz_w3.out; omega)) (by have := as_W1.out; have := sz_W1.out; have := as_W2.out; have := sz_W2.out; have := sz_w3.out; omega)
      have rsF_W4 : ∀ o, (((w3.setCell ⟨w.heap.size, 0, none⟩ (.slice a3 n c3)).setCell ⟨w.heap.size, 1, none⟩ (.int .i64 T)).setCell ⟨w.heap.size, 2, none⟩ (.int .i64 N)).frozen? ⟨w.heap.size + 1, o, none⟩ = false := fun o => frz_set1 (frz_set1 (frz_set1 ((rsF_w3 o))))
      have rsL_W4 : w.heap.size + 1 < (((w3.setCell ⟨w.heap.size, 0, none⟩ (.slice a3 n c3)).setCell ⟨w.heap.size, 1, none⟩ (.int .i64 T)).setCell ⟨w.heap.size, 2, none⟩ (.int .i64 N)).heap.size := by simpa using rsL_w3
      have oL_W4 : Hid (OwnG KLs 35 (((w3.setCell ⟨w.heap.size, 0, none⟩ (.slice a3 n c3)).setCell ⟨w.heap.size, 1, none⟩ (.int .i64 T)).setCell ⟨w.heap.size, 2, none⟩ (.int .i64 N)) (W2.heap.size) (.slice a3 n c3) (ls)) := hidP (OwnG.grown (OwnG.grown (OwnG.grown (oL_w3.out) (grown_cellG _ _ _ _) (OwnG.ne_of oL_w3.out (by have := as_W1.out; have := sz_W1.out; have := as_W2.out; have := sz_W2.out; have := sz_w3.out; omega))) (grown_cellG _ _ _ _) (OwnG.ne_of oL_w3.out (by have := as_W1.out; have := sz_W1.out; have := as_W2.out; have := sz_W2.out; have := sz_w3.out; omega))) (grown_cellG _ _ _ _) (OwnG.ne_of oL_w3.out (by have := as_W1.out; have := sz_W1.out; have := as_W2.out; have := sz_W2.out; have := sz_w3.out; omega)))
      have acc_W4 : Hid (Below w.heap.size w (((w3.setCell ⟨w.heap.size, 0, none⟩ (.slice a3 n c3)).setCell ⟨w.heap.size, 1, none⟩ (.int .i64 T)).setCell ⟨w.heap.size, 2, none⟩ (.int .i64 N))) := hidP (Below.setCell (Below.setCell (Below.setCell (acc_w3.out) (by have := as_W1.out; have := sz_W1.out; have := as_W2.out; have := sz_W2.out; have := sz_w3.out; try dsimp only; omega) _) (by have := as_W1.out; have := sz_W1.out; have := as_W2.out; have := sz_W2.out; have := sz_w3.out; try dsimp only; omega) _) (by have := as_W1.out; have := sz_W1.out; have := as_W2.out; have := sz_W2.out; have := sz_w3.out; try dsimp only; omega) _)
      have sz_W4 : Hid ((((w3.setCell ⟨w.heap.size, 0, none⟩ (.slice a3 n c3)).setCell ⟨w.heap.size, 1, none⟩ (.int .i64 T)).setCell ⟨w.heap.size, 2, none⟩ (.int .i64 N)).heap.size = w3.heap.size) := hidP (by simp)
      generalize ((w3.setCell ⟨w.heap.size, 0, none⟩ (.slice a3 n c3)).setCell ⟨w.heap.size, 1, none⟩ (.int .i64 T)).setCell ⟨w.heap.size, 2, none⟩ (.int .i64 N) = W4 at *
      clear bk0_w3 bk1_w3 bk2_w3 bkF_w3 bkL_w3 rs0_w3 rs1_w3 rs2_w3 rsF_w3 rsL_w3 oL_w3 acc_w3
      have zG := own_zeroG KAd W4 W4.heap.size 28 (Nat.le_refl _)
      rw [sz_W4.out] at zG
      have ab5 := alloc_below W4 (.cells #[] 28)
      have as5 : Hid ((W4.alloc (.cells #[] 28)).heap.size = W4.heap.size + 1) := hidP (by simp)
      generalize W4.alloc (.cells #[] 28) = W5 at *
      have bk0_W5 := (ab5.cell bkL_W4).trans bk0_W4
      have bk1_W5 := (ab5.cell bkL_W4).trans bk1_W4
      have bk2_W5 := (ab5.cell bkL_W4).trans bk2_W4
      have bkF_W5 : ∀ o, W5.frozen? ⟨w.heap.size, o, none⟩ = false := fun o => (ab5.frozen bkL_W4).trans (bkF_W4 o)
      have bkL_W5 : w.heap.size < W5.heap.size := Nat.lt_of_lt_of_le bkL_W4 ab5.size
      have rs0_W5 := (ab5.cell rsL_W4).trans rs0_W4
      have rs1_W5 := (ab5.cell rsL_W4).trans rs1_W4
      have rs2_W5 := (ab5.cell rsL_W4).trans rs2_W4
      have rsF_W5 : ∀ o, W5.frozen? ⟨w.heap.size + 1, o, none⟩ = false := fun o => (ab5.frozen rsL_W4).trans (rsF_W4 o)
      have rsL_W5 : w.heap.size + 1 < W5.heap.size := Nat.lt_of_lt_of_le rsL_W4 ab5.size
      have oL_W5 := hidP (OwnG.later oL_W4.out ab5)
      have acc_W5 := hidP (acc_W4.out.trans (ab5.mono acc_W4.out.size))
      have sz_W5 : Hid (W4.heap.size ≤ W5.heap.size) := hidP ab5.size
      clear ab5 bk0_W4 bk1_W4 bk2_W4 bkF_W4 bkL_W4 rs0_W4 rs1_W4 rs2_W4 rsF_W4 rsL_W4 oL_W4 acc_W4
      have oG_W5 := hidP (zG)
      clear zG
      refine (HIm.out _ a3 c3 oL_W5.out.row).mono ?_
      rintro e w6 ⟨rfl, hb6⟩
      have bk0_w6 := (hb6.cell bkL_W5).trans bk0_W5
      have bk1_w6 := (hb6.cell bkL_W5).trans bk1_W5
      have bk2_w6 := (hb6.cell bkL_W5).trans bk2_W5
      have bkF_w6 : ∀ o, w6.frozen? ⟨w.heap.size, o, none⟩ = false := fun o => (hb6.frozen bkL_W5).trans (bkF_W5 o)
      have bkL_w6 : w.heap.size < w6.heap.size := Nat.lt_of_lt_of_le bkL_W5 hb6.size
      have rs0_w6 := (hb6.cell rsL_W5).trans rs0_W5
      have rs1_w6 := (hb6.cell rsL_W5).trans rs1_W5
      have rs2_w6 := (hb6.cell rsL_W5).trans rs2_W5
      have rsF_w6 : ∀ o, w6.frozen? ⟨w.heap.size + 1, o, none⟩ = false := fun o => (hb6.frozen rsL_W5).trans (rsF_W5 o)
      have rsL_w6 : w.heap.size + 1 < w6.heap.size := Nat.lt_of_lt_of_le rsL_W5 hb6.size
      have oL_w6 := hidP (OwnG.later oL_W5.out hb6)
      have oG_w6 := hidP (OwnG.later oG_W5.out hb6)
      have acc_w6 := hidP (acc_W5.out.trans (hb6.mono acc_W5.out.size))
      have sz_w6 : Hid (W5.heap.size ≤ w6.heap.size) := hidP hb6.size
      clear hb6 bk0_W5 bk1_W5 bk2_W5 bkF_W5 bkL_W5 rs0_W5 rs1_W5 rs2_W5 rsF_W5 rsL_W5 oL_W5 oG_W5 acc_W5
      go_wp2_with fail
      refine bodyPost_ret (v := .tuple #[.agg #[.slice a3 n c3, .int .i64 T, .int .i64 N], .slice (some ⟨w3.heap.size, 0, none⟩) 0 0]) (by simp [results, Tryz.results15, go_sem, rs0_w6, rs1_w6, rs2_w6]) rfl ⟨_, _, _, _, rfl, ?_, ?_, ?_, ?_⟩
      · refine OwnG.mono (B := W2.heap.size) ?_ (by have := as_W1.out; have := sz_W1.out; have := as_W2.out; have := sz_W2.out; have := sz_w3.out; have := sz_W4.out; have := as5.out; have := sz_W5.out; have := sz_w6.out; omega)
        iterate 3 (with_reducible refine OwnG.grown ?_ (grown_cellG _ _ _ _) ?_; rotate_left; (focus (exact OwnG.ne_of oL_w6.out (by have := as_W1.out; have := sz_W1.out; have := as_W2.out; have := sz_W2.out; have := sz_w3.out; have := sz_W4.out; have := as5.out; have := sz_W5.out; have := sz_w6.out; omega))))
        with_reducible exact oL_w6.out
      · refine OwnG.mono (B := w3.heap.size) ?_ (by have := as_W1.out; have := sz_W1.out; have := as_W2.out; have := sz_W2.out; have := sz_w3.out; have := sz_W4.out; have := as5.out; have := sz_W5.out; have := sz_w6.out; omega)
        iterate 3 (with_reducible refine OwnG.grown ?_ (grown_cellG _ _ _ _) ?_; rotate_left; (focus (exact OwnG.ne_of oG_w6.out (by have := as_W1.out; have := sz_W1.out; have := as_W2.out; have := sz_W2.out; have := sz_w3.out; have := sz_W4.out; have := as5.out; have := sz_W5.out; have := sz_w6.out; omega))))
        with_reducible exact oG_w6.out
      · intro k h1 h2
        have h3 := (lo3.out k h1).2
        rw [ob_some, Option.some.injEq] at h2
        have := as_W1.out; have := sz_W1.out; have := as_W2.out; have := sz_W2.out; have := sz_w3.out; have := sz_W4.out; have := as5.out; have := sz_W5.out; have := sz_w6.out
        omega
      · repeat (with_reducible refine Below.setCell ?_ ?_ _; rotate_left; (focus (first | (simp; done) | (simp; omega))))
        exact acc_w6.out

set_option maxRecDepth 10000 in
set_option maxHeartbeats 4000000 in
theorem iAdv_yes (a : Option Addr) (n c : Nat) (T N : Int) (ls : List Ls) (w : World) (hn : n = ls.length) (hB : RowG KLs w a ls) (hl : n ≤ 1048576) (hst : ∀ q ∈ ls, q.t.size ≤ 9223372036854775807) (now : Int) (hr : (bkB ls T N && (decide (N < now) && decide (now ≤ 1000000000))) = true) :
    Calls Tryz.prog 15 #[.agg #[.slice a n c, .int .i64 T, .int .i64 N], .int .i64 now] w fun e w' => ∃ a' c' b' d', e = .returned (.tuple #[.agg #[.slice a' (stayL now ls).length c', .int .i64 T, .int .i64 now], .slice b' (goneL now ls).length d']) ∧ OwnG KLs 35 w' w.heap.size (.slice a' (stayL now ls).length c') (stayL now ls) ∧ OwnG KAd 28 w' w.heap.size (.slice b' (goneL now ls).length d') (goneL now ls) ∧ (∀ k, (Value.slice a' (stayL now ls).length c').ownBlock = some k → (Value.slice b' (goneL now ls).length d').ownBlock ≠ some k) ∧ Below w.heap.size w w' := by
  have HOw := hidP (fun W h => ownBook_any a n c T N ls W hn (hB.later h) hl)
  have HIm := hidP (fun W a c e1 => iBookOk_any a n c T N ls W hn e1 hl hst)
  have HN := hidP hn
  clear hB hn hst
  rw [Bool.and_eq_true, Bool.and_eq_true] at hr
  obtain ⟨hb, hN0, hN1⟩ := hr
  have h1 : decide (now ≤ N) = false := by have := of_decide_eq_true hN0; exact decide_eq_false (by omega)
  have h2 : decide ((1000000000 : Int) < now) = false := by have := of_decide_eq_true hN1; exact decide_eq_false (by omega)
  have hn80 : n ≤ 80 := by
    unfold bkB at hb
    simp only [Bool.and_eq_true, decide_eq_true_eq] at hb
    have := hb.1.1; have := HN.out; omega
  rw [hb] at HIm
  clear hN0 hN1 hb
  go_enter Tryz.func15, Tryz.ntmps15
  go_wp2_with fail
  obtain ⟨bk0_W1, bk1_W1, bk2_W1⟩ := box3B w 26 (.slice a n c) (.int .i64 T) (.int .i64 N)
  have bkF_W1 : ∀ o, (w.alloc (.cells #[.slice a n c, .int .i64 T, .int .i64 N] 26)).frozen? ⟨w.heap.size, o, none⟩ = false := fun o => by simp [go_sem]
  have bkL_W1 : w.heap.size < (w.alloc (.cells #[.slice a n c, .int .i64 T, .int .i64 N] 26)).heap.size := by simp
  have ab_W1 := alloc_below w (.cells #[.slice a n c, .int .i64 T, .int .i64 N] 26)
  have as_W1 : Hid ((w.alloc (.cells #[.slice a n c, .int .i64 T, .int .i64 N] 26)).heap.size = w.heap.size + 1) := hidP (by simp)
  generalize w.alloc (.cells #[.slice a n c, .int .i64 T, .int .i64 N] 26) = W1 at *
  have acc_W1 := hidP (ab_W1)
  have sz_W1 : Hid (w.heap.size ≤ W1.heap.size) := hidP ab_W1.size
  clear ab_W1 
  obtain ⟨rs0_W2, rs1_W2, rs2_W2⟩ := box3B W1 26 (.slice none 0 0) (.int .i64 0) (.int .i64 0)
  have rsF_W2 : ∀ o, (W1.alloc (.cells #[.slice none 0 0, .int .i64 0, .int .i64 0] 26)).frozen? ⟨W1.heap.size, o, none⟩ = false := fun o => by simp [go_sem]
  have rsL_W2 : W1.heap.size < (W1.alloc (.cells #[.slice none 0 0, .int .i64 0, .int .i64 0] 26)).heap.size := by simp
  have ab_W2 := alloc_below W1 (.cells #[.slice none 0 0, .int .i64 0, .int .i64 0] 26)
  have as_W2 : Hid ((W1.alloc (.cells #[.slice none 0 0, .int .i64 0, .int .i64 0] 26)).heap.size = W1.heap.size + 1) := hidP (by simp)
  generalize W1.alloc (.cells #[.slice none 0 0, .int .i64 0, .int .i64 0] 26) = W2 at *
  have bk0_W2 := (ab_W2.cell bkL_W1).trans bk0_W1
  have bk1_W2 := (ab_W2.cell bkL_W1).trans bk1_W1
  have bk2_W2 := (ab_W2.cell bkL_W1).trans bk2_W1
  have bkF_W2 : ∀ o, W2.frozen? ⟨w.heap.size, o, none⟩ = false := fun o => (ab_W2.frozen bkL_W1).trans (bkF_W1 o)
  have bkL_W2 : w.heap.size < W2.heap.size := Nat.lt_of_lt_of_le bkL_W1 ab_W2.size
  have acc_W2 := hidP (acc_W1.out.trans (ab_W2.mono acc_W1.out.size))
  have sz_W2 : Hid (W1.heap.size ≤ W2.heap.size) := hidP ab_W2.size
  clear ab_W2 bk0_W1 bk1_W1 bk2_W1 bkF_W1 bkL_W1 acc_W1
  have eW1 := as_W1.out
  rw [eW1] at rs0_W2 rs1_W2 rs2_W2 rsL_W2
  have rsF_W2' : ∀ o, W2.frozen? ⟨w.heap.size + 1, o, none⟩ = false := fun o => by have := rsF_W2 o; rw [eW1] at this; exact this
  clear rsF_W2 eW1
  have rsF_W2 := rsF_W2'
  clear rsF_W2'
  refine (HOw.out _ acc_W2.out).mono ?_
  rintro e w3 ⟨a3, c3, rfl, og3, hb3⟩
  have lo3 := hidP (fun k hk => OwnG.lt og3 k hk)
  have og3' := hidP og3
  clear og3
  have bk0_w3 := (hb3.cell bkL_W2).trans bk0_W2
  have bk1_w3 := (hb3.cell bkL_W2).trans bk1_W2
  have bk2_w3 := (hb3.cell bkL_W2).trans bk2_W2
  have bkF_w3 : ∀ o, w3.frozen? ⟨w.heap.size, o, none⟩ = false := fun o => (hb3.frozen bkL_W2).trans (bkF_W2 o)
  have bkL_w3 : w.heap.size < w3.heap.size := Nat.lt_of_lt_of_le bkL_W2 hb3.size
  have rs0_w3 := (hb3.cell rsL_W2).trans rs0_W2
  have rs1_w3 := (hb3.cell rsL_W2).trans rs1_W2
  have rs2_w3 := (hb3.cell rsL_W2).trans rs2_W2
  have rsF_w3 : ∀ o, w3.frozen? ⟨w.heap.size + 1, o, none⟩ = false := fun o => (hb3.frozen rsL_W2).trans (rsF_W2 o)
  have rsL_w3 : w.heap.size + 1 < w3.heap.size := Nat.lt_of_lt_of_le rsL_W2 hb3.size
  have acc_w3 := hidP (acc_W2.out.trans (hb3.mono acc_W2.out.size))
  have sz_w3 : Hid (W2.heap.size ≤ w3.heap.size) := hidP hb3.size
  clear hb3 bk0_W2 bk1_W2 bk2_W2 bkF_W2 bkL_W2 rs0_W2 rs1_W2 rs2_W2 rsF_W2 rsL_W2 acc_W2
  have oL_w3 := hidP (og3'.out)
  go_wp2_with fail
  have bk0_W4 : (((w3.setCell ⟨w.heap.size, 0, none⟩ (.slice a3 n c3)).setCell ⟨w.heap.size, 1, none⟩ (.int .i64 T)).setCell ⟨w.heap.size, 2, none⟩ (.int .i64 N)).cell? ⟨w.heap.size, 0, none⟩ = some (.slice a3 n c3) := by simp [go_sem, bk0_w3]
  have bk1_W4 : (((w3.setCell ⟨w.heap.size, 0, none⟩ (.slice a3 n c3)).setCell ⟨w.heap.size, 1, none⟩ (.int .i64 T)).setCell ⟨w.heap.size, 2, none⟩ (.int .i64 N)).cell? ⟨w.heap.size, 1, none⟩ = some (.int .i64 T) := by simp [go_sem, bk1_w3]
  have bk2_W4 : (((w3.setCell ⟨w.heap.size, 0, none⟩ (.slice a3 n c3)).setCell ⟨w.heap.size, 1, none⟩ (.int .i64 T)).setCell ⟨w.heap.size, 2, none⟩ (.int .i64 N)).cell? ⟨w.heap.size, 2, none⟩ = some (.int .i64 N) := by simp [go_sem, bk2_w3]
  have bkF_W4 : ∀ o, (((w3.setCell ⟨w.heap.size, 0, none⟩ (.slice a3 n c3)).setCell ⟨w.heap.size, 1, none⟩ (.int .i64 T)).setCell ⟨w.heap.size, 2, none⟩ (.int .i64 N)).frozen? ⟨w.heap.size, o, none⟩ = false := fun o => frz_set1 (frz_set1 (frz_set1 ((bkF_w3 o))))
  have bkL_W4 : w.heap.size < (((w3.setCell ⟨w.heap.size, 0, none⟩ (.slice a3 n c3)).setCell ⟨w.heap.size, 1, none⟩ (.int .i64 T)).setCell ⟨w.heap.size, 2, none⟩ (.int .i64 N)).heap.size := by simpa using bkL_w3
  have rs0_W4 : (((w3.setCell ⟨w.heap.size, 0, none⟩ (.slice a3 n c3)).setCell ⟨w.heap.size, 1, none⟩ (.int .i64 T)).setCell ⟨w.heap.size, 2, none⟩ (.int .i64 N)).cell? ⟨w.heap.size + 1, 0, none⟩ = some (.slice none 0 0) := cell_set1 (cell_set1 (cell_set1 (rs0_w3) (by have := as_W1.out; have := sz_W1.out; have := as_W2.out; have := sz_W2.out; have := sz_w3.out; omega)) (by have := as_W1.out; have := sz_W1.out; have := as_W2.out; have := sz_W2.out; have := sz_w3.out; omega)) (by have := as_W1.out; have := sz_W1.out; have := as_W2.out; have := sz_W2.out; have := sz_w3.out; omega)
  have rs1_W4 : (((w3.setCell ⟨w.heap.size, 0, none⟩ (.slice a3 n c3)).setCell ⟨w.heap.size, 1, none⟩ (.int .i64 T)).setCell ⟨w.heap.size, 2, none⟩ (.int .i64 N)).cell? ⟨w.heap.size + 1, 1, none⟩ = some (.int .i64 0) := cell_set1 (cell_set1 (cell_set1 (rs1_w3) (by have := as_W1.out; have := sz_W1.out; have := as_W2.out; have := sz_W2.out; have := sz_w3.out; omega)) (by have := as_W1.out; have := sz_W1.out; have := as_W2.out; have := sz_W2.out; have := sz_w3.out; omega)) (by have := as_W1.out; have := sz_W1.out; have := as_W2.out; have := sz_W2.out; have := sz_w3.out; omega)
  have rs2_W4 : (((w3.setCell ⟨w.heap.size, 0, none⟩ (.slice a3 n c3)).setCell ⟨w.heap.size, 1, none⟩ (.int .i64 T)).setCell ⟨w.heap.size, 2, none⟩ (.int .i64 N)).cell? ⟨w.heap.size + 1, 2, none⟩ = some (.int .i64 0) := cell_set1 (cell_set1 (cell_set1 (rs2_w3) (by have := as_W1.out; have := sz_W1.out; have := as_W2.out; have := sz_W2.out; have := sz_w3.out; omega)) (by have := as_W1.out; have := sz_W1.out; have := as_W2.out; have := sz_W2.out; have := sz_w3.out; omega)) (by have := as_W1.out; have := sz_W1.out; have := as_W2.out; have := sz_W2.out; have := sz_w3.out; omega)
  have rsF_W4 : ∀ o, (((w3.setCell ⟨w.heap.size, 0, none⟩ (.slice a3 n c3)).setCell ⟨w.heap.size, 1, none⟩ (.int .i64 T)).setCell ⟨w.heap.size, 2, none⟩ (.int .i64 N)).frozen? ⟨w.heap.size + 1, o, none⟩ = false := fun o => frz_set1 (frz_set1 (frz_set1 ((rsF_w3 o))))
  have rsL_W4 : w.heap.size + 1 < (((w3.setCell ⟨w.heap.size, 0, none⟩ (.slice a3 n c3)).setCell ⟨w.heap.size, 1, none⟩ (.int .i64 T)).setCell ⟨w.heap.size, 2, none⟩ (.int .i64 N)).heap.size := by simpa using rsL_w3
  have oL_W4 : Hid (OwnG KLs 35 (((w3.setCell ⟨w.heap.size, 0, none⟩ (.slice a3 n c3)).setCell ⟨w.heap.size, 1, none⟩ (.int .i64 T)).setCell ⟨w.heap.size, 2, none⟩ (.int .i64 N)) (W2.heap.size) (.slice a3 n c3) (ls)) := hidP (OwnG.grown (OwnG.grown (OwnG.grown (oL_w3.out) (grown_cellG _ _ _ _) (OwnG.ne_of oL_w3.out (by have := as_W1.out; have := sz_W1.out; have := as_W2.out; have := sz_W2.out; have := sz_w3.out; omega))) (grown_cellG _ _ _ _) (OwnG.ne_of oL_w3.out (by have := as_W1.out; have := sz_W1.out; have := as_W2.out; have := sz_W2.out; have := sz_w3.out; omega))) (grown_cellG _ _ _ _) (OwnG.ne_of oL_w3.out (by have := as_W1.out; have := sz_W1.out; have := as_W2.out; have := sz_W2.out; have := sz_w3.out; omega)))
  have acc_W4 : Hid (Below w.heap.size w (((w3.setCell ⟨w.heap.size, 0, none⟩ (.slice a3 n c3)).setCell ⟨w.heap.size, 1, none⟩ (.int .i64 T)).setCell ⟨w.heap.size, 2, none⟩ (.int .i64 N))) := hidP (Below.setCell (Below.setCell (Below.setCell (acc_w3.out) (by have := as_W1.out; have := sz_W1.out; have := as_W2.out; have := sz_W2.out; have := sz_w3.out; try dsimp only; omega) _) (by have := as_W1.out; have := sz_W1.out; have := as_W2.out; have := sz_W2.out; have := sz_w3.out; try dsimp only; omega) _) (by have := as_W1.out; have := sz_W1.out; have := as_W2.out; have := sz_W2.out; have := sz_w3.out; try dsimp only; omega) _)
  have sz_W4 : Hid ((((w3.setCell ⟨w.heap.size, 0, none⟩ (.slice a3 n c3)).setCell ⟨w.heap.size, 1, none⟩ (.int .i64 T)).setCell ⟨w.heap.size, 2, none⟩ (.int .i64 N)).heap.size = w3.heap.size) := hidP (by simp)
  generalize ((w3.setCell ⟨w.heap.size, 0, none⟩ (.slice a3 n c3)).setCell ⟨w.heap.size, 1, none⟩ (.int .i64 T)).setCell ⟨w.heap.size, 2, none⟩ (.int .i64 N) = W4 at *
  clear bk0_w3 bk1_w3 bk2_w3 bkF_w3 bkL_w3 rs0_w3 rs1_w3 rs2_w3 rsF_w3 rsL_w3 oL_w3 acc_w3
  have zG := own_zeroG KAd W4 W4.heap.size 28 (Nat.le_refl _)
  rw [sz_W4.out] at zG
  have ab5 := alloc_below W4 (.cells #[] 28)
  have as5 : Hid ((W4.alloc (.cells #[] 28)).heap.size = W4.heap.size + 1) := hidP (by simp)
  generalize W4.alloc (.cells #[] 28) = W5 at *
  have bk0_W5 := (ab5.cell bkL_W4).trans bk0_W4
  have bk1_W5 := (ab5.cell bkL_W4).trans bk1_W4
  have bk2_W5 := (ab5.cell bkL_W4).trans bk2_W4
  have bkF_W5 : ∀ o, W5.frozen? ⟨w.heap.size, o, none⟩ = false := fun o => (ab5.frozen bkL_W4).trans (bkF_W4 o)
  have bkL_W5 : w.heap.size < W5.heap.size := Nat.lt_of_lt_of_le bkL_W4 ab5.size
  have rs0_W5 := (ab5.cell rsL_W4).trans rs0_W4
  have rs1_W5 := (ab5.cell rsL_W4).trans rs1_W4
  have rs2_W5 := (ab5.cell rsL_W4).trans rs2_W4
  have rsF_W5 : ∀ o, W5.frozen? ⟨w.heap.size + 1, o, none⟩ = false := fun o => (ab5.frozen rsL_W4).trans (rsF_W4 o)
  have rsL_W5 : w.heap.size + 1 < W5.heap.size := Nat.lt_of_lt_of_le rsL_W4 ab5.size
  have oL_W5 := hidP (OwnG.later oL_W4.out ab5)
  have acc_W5 := hidP (acc_W4.out.trans (ab5.mono acc_W4.out.size))
  have sz_W5 : Hid (W4.heap.size ≤ W5.heap.size) := hidP ab5.size
  clear ab5 bk0_W4 bk1_W4 bk2_W4 bkF_W4 bkL_W4 rs0_W4 rs1_W4 rs2_W4 rsF_W4 rsL_W4 oL_W4 acc_W4
  have oG_W5 := hidP (zG)
  clear zG
  refine (HIm.out _ a3 c3 oL_W5.out.row).mono ?_
  rintro e w6 ⟨rfl, hb6⟩
  have bk0_w6 := (hb6.cell bkL_W5).trans bk0_W5
  have bk1_w6 := (hb6.cell bkL_W5).trans bk1_W5
  have bk2_w6 := (hb6.cell bkL_W5).trans bk2_W5
  have bkF_w6 : ∀ o, w6.frozen? ⟨w.heap.size, o, none⟩ = false := fun o => (hb6.frozen bkL_W5).trans (bkF_W5 o)
  have bkL_w6 : w.heap.size < w6.heap.size := Nat.lt_of_lt_of_le bkL_W5 hb6.size
  have rs0_w6 := (hb6.cell rsL_W5).trans rs0_W5
  have rs1_w6 := (hb6.cell rsL_W5).trans rs1_W5
  have rs2_w6 := (hb6.cell rsL_W5).trans rs2_W5
  have rsF_w6 : ∀ o, w6.frozen? ⟨w.heap.size + 1, o, none⟩ = false := fun o => (hb6.frozen rsL_W5).trans (rsF_W5 o)
  have rsL_w6 : w.heap.size + 1 < w6.heap.size := Nat.lt_of_lt_of_le rsL_W5 hb6.size
  have oL_w6 := hidP (OwnG.later oL_W5.out hb6)
  have oG_w6 := hidP (OwnG.later oG_W5.out hb6)
  have acc_w6 := hidP (acc_W5.out.trans (hb6.mono acc_W5.out.size))
  have sz_w6 : Hid (W5.heap.size ≤ w6.heap.size) := hidP hb6.size
  clear hb6 bk0_W5 bk1_W5 bk2_W5 bkF_W5 bkL_W5 rs0_W5 rs1_W5 rs2_W5 rsF_W5 rsL_W5 oL_W5 oG_W5 acc_W5
  go_wp2_with fail
  have bk0_W7 : (w6.setCell ⟨w.heap.size, 2, none⟩ (.int .i64 now)).cell? ⟨w.heap.size, 0, none⟩ = some (.slice a3 n c3) := by simp [go_sem, bk0_w6]
  have bk1_W7 : (w6.setCell ⟨w.heap.size, 2, none⟩ (.int .i64 now)).cell? ⟨w.heap.size, 1, none⟩ = some (.int .i64 T) := by simp [go_sem, bk1_w6]
  have bk2_W7 : (w6.setCell ⟨w.heap.size, 2, none⟩ (.int .i64 now)).cell? ⟨w.heap.size, 2, none⟩ = some (.int .i64 now) := by simp [go_sem, bk2_w6]
  have bkF_W7 : ∀ o, (w6.setCell ⟨w.heap.size, 2, none⟩ (.int .i64 now)).frozen? ⟨w.heap.size, o, none⟩ = false := fun o => frz_set1 ((bkF_w6 o))
  have bkL_W7 : w.heap.size < (w6.setCell ⟨w.heap.size, 2, none⟩ (.int .i64 now)).heap.size := by simpa using bkL_w6
  have rs0_W7 : (w6.setCell ⟨w.heap.size, 2, none⟩ (.int .i64 now)).cell? ⟨w.heap.size + 1, 0, none⟩ = some (.slice none 0 0) := cell_set1 (rs0_w6) (by have := as_W1.out; have := sz_W1.out; have := as_W2.out; have := sz_W2.out; have := sz_w3.out; have := sz_W4.out; have := as5.out; have := sz_W5.out; have := sz_w6.out; omega)
  have rs1_W7 : (w6.setCell ⟨w.heap.size, 2, none⟩ (.int .i64 now)).cell? ⟨w.heap.size + 1, 1, none⟩ = some (.int .i64 0) := cell_set1 (rs1_w6) (by have := as_W1.out; have := sz_W1.out; have := as_W2.out; have := sz_W2.out; have := sz_w3.out; have := sz_W4.out; have := as5.out; have := sz_W5.out; have := sz_w6.out; omega)
  have rs2_W7 : (w6.setCell ⟨w.heap.size, 2, none⟩ (.int .i64 now)).cell? ⟨w.heap.size + 1, 2, none⟩ = some (.int .i64 0) := cell_set1 (rs2_w6) (by have := as_W1.out; have := sz_W1.out; have := as_W2.out; have := sz_W2.out; have := sz_w3.out; have := sz_W4.out; have := as5.out; have := sz_W5.out; have := sz_w6.out; omega)
  have rsF_W7 : ∀ o, (w6.setCell ⟨w.heap.size, 2, none⟩ (.int .i64 now)).frozen? ⟨w.heap.size + 1, o, none⟩ = false := fun o => frz_set1 ((rsF_w6 o))
  have rsL_W7 : w.heap.size + 1 < (w6.setCell ⟨w.heap.size, 2, none⟩ (.int .i64 now)).heap.size := by simpa using rsL_w6
  have oL_W7 : Hid (OwnG KLs 35 (w6.setCell ⟨w.heap.size, 2, none⟩ (.int .i64 now)) (W2.heap.size) (.slice a3 n c3) (ls)) := hidP (OwnG.grown (oL_w6.out) (grown_cellG _ _ _ _) (OwnG.ne_of oL_w6.out (by have := as_W1.out; have := sz_W1.out; have := as_W2.out; have := sz_W2.out; have := sz_w3.out; have := sz_W4.out; have := as5.out; have := sz_W5.out; have := sz_w6.out; omega)))
  have oG_W7 : Hid (OwnG KAd 28 (w6.setCell ⟨w.heap.size, 2, none⟩ (.int .i64 now)) (w3.heap.size) (.slice (some ⟨w3.heap.size, 0, none⟩) 0 0) ([])) := hidP (OwnG.grown (oG_w6.out) (grown_cellG _ _ _ _) (OwnG.ne_of oG_w6.out (by have := as_W1.out; have := sz_W1.out; have := as_W2.out; have := sz_W2.out; have := sz_w3.out; have := sz_W4.out; have := as5.out; have := sz_W5.out; have := sz_w6.out; omega)))
  have acc_W7 : Hid (Below w.heap.size w (w6.setCell ⟨w.heap.size, 2, none⟩ (.int .i64 now))) := hidP (Below.setCell (acc_w6.out) (by have := as_W1.out; have := sz_W1.out; have := as_W2.out; have := sz_W2.out; have := sz_w3.out; have := sz_W4.out; have := as5.out; have := sz_W5.out; have := sz_w6.out; try dsimp only; omega) _)
  have sz_W7 : Hid ((w6.setCell ⟨w.heap.size, 2, none⟩ (.int .i64 now)).heap.size = w6.heap.size) := hidP (by simp)
  generalize w6.setCell ⟨w.heap.size, 2, none⟩ (.int .i64 now) = W7 at *
  clear bk0_w6 bk1_w6 bk2_w6 bkF_w6 bkL_w6 rs0_w6 rs1_w6 rs2_w6 rsF_w6 rsL_w6 oL_w6 oG_w6 acc_w6
  have zS := own_zeroG KLs W7 W7.heap.size 35 (Nat.le_refl _)
  rw [sz_W7.out] at zS
  have ab8 := alloc_below W7 (.cells #[] 35)
  have as8 : Hid ((W7.alloc (.cells #[] 35)).heap.size = W7.heap.size + 1) := hidP (by simp)
  generalize W7.alloc (.cells #[] 35) = W8 at *
  have bk0_W8 := (ab8.cell bkL_W7).trans bk0_W7
  have bk1_W8 := (ab8.cell bkL_W7).trans bk1_W7
  have bk2_W8 := (ab8.cell bkL_W7).trans bk2_W7
  have bkF_W8 : ∀ o, W8.frozen? ⟨w.heap.size, o, none⟩ = false := fun o => (ab8.frozen bkL_W7).trans (bkF_W7 o)
  have bkL_W8 : w.heap.size < W8.heap.size := Nat.lt_of_lt_of_le bkL_W7 ab8.size
  have rs0_W8 := (ab8.cell rsL_W7).trans rs0_W7
  have rs1_W8 := (ab8.cell rsL_W7).trans rs1_W7
  have rs2_W8 := (ab8.cell rsL_W7).trans rs2_W7
  have rsF_W8 : ∀ o, W8.frozen? ⟨w.heap.size + 1, o, none⟩ = false := fun o => (ab8.frozen rsL_W7).trans (rsF_W7 o)
  have rsL_W8 : w.heap.size + 1 < W8.heap.size := Nat.lt_of_lt_of_le rsL_W7 ab8.size
  have oL_W8 := hidP (OwnG.later oL_W7.out ab8)
  have oG_W8 := hidP (OwnG.later oG_W7.out ab8)
  have acc_W8 := hidP (acc_W7.out.trans (ab8.mono acc_W7.out.size))
  have sz_W8 : Hid (W7.heap.size ≤ W8.heap.size) := hidP ab8.size
  clear ab8 bk0_W7 bk1_W7 bk2_W7 bkF_W7 bkL_W7 rs0_W7 rs1_W7 rs2_W7 rsF_W7 rsL_W7 oL_W7 oG_W7 acc_W7
  have HS0 := hidP zS
  clear zS
  have HQ : Hid (w3.heap.size ≤ w6.heap.size ∧ w3.heap.size ≤ W8.heap.size ∧ w3.heap.size < w6.heap.size ∧ w.heap.size + 1 < w3.heap.size ∧ w.heap.size < w3.heap.size) := hidP (by have := as_W1.out; have := sz_W1.out; have := as_W2.out; have := sz_W2.out; have := sz_w3.out; have := sz_W4.out; have := as5.out; have := sz_W5.out; have := sz_w6.out; have := sz_W7.out; have := as8.out; have := sz_W8.out; omega)
  have lo4 := hidP (fun k hk => show k < w3.heap.size by have h5 := (lo3.out k hk).2; have := as_W1.out; have := sz_W1.out; have := as_W2.out; have := sz_W2.out; have := sz_w3.out; have := sz_W4.out; have := as5.out; have := sz_W5.out; have := sz_w6.out; have := sz_W7.out; have := as8.out; have := sz_W8.out; omega)
  go_loopw [6, 7, 9, 34] (fun t6 t7 _ t34 wr => ∃ (k p6 p7 : Nat) (a6 : Option Addr) (c6 : Nat) (a7 : Option Addr) (c7 : Nat), k ≤ n ∧ t34 = .int .i64 k ∧ t6 = .slice a6 p6 c6 ∧ t7 = .slice a7 p7 c7 ∧ p6 = (goneL now (ls.take k)).length ∧ p7 = (stayL now (ls.take k)).length ∧ OwnG KAd 28 wr w3.heap.size (.slice a6 p6 c6) (goneL now (ls.take k)) ∧ OwnG KLs 35 wr w3.heap.size (.slice a7 p7 c7) (stayL now (ls.take k)) ∧ (∀ j, (Value.slice a7 p7 c7).ownBlock = some j → (Value.slice a6 p6 c6).ownBlock ≠ some j) ∧ Below w3.heap.size W8 wr) (fun _ _ _ t34 _ => n - (intOf t34).toNat)
  case atStart => exact ⟨0, 0, 0, some ⟨w3.heap.size, 0, none⟩, 0, _, 0, Nat.zero_le _, rfl, rfl, rfl, rfl, rfl, oG_W8.out, HS0.out.mono HQ.out.1, (fun j hj he => by rw [ob_some, Option.some.injEq] at hj he; have := HQ.out; omega), Below.refl _ _⟩
  case round =>
    obtain ⟨k, p6, p7, a6, c6, a7, c7, hk, rfl, rfl, rfl, hp6, hp7, ho6, ho7, hdj, hbel⟩ := hrel
    have hsz8 := hbel.size
    have hGr : w3.heap.size ≤ wr.heap.size := Nat.le_trans HQ.out.2.1 hsz8
    have HBel := hidP hbel
    have HDj := hidP hdj
    have HP67 := hidP (And.intro hp6 hp7)
    have hp6k : p6 ≤ 80 := by rw [hp6]; have := (stay_len now (ls.take k)).2; rw [List.length_take] at this; omega
    have hp7k : p7 ≤ 80 := by rw [hp7]; have := (stay_len now (ls.take k)).1; rw [List.length_take] at this; omega
    have HO6 := hidP ho6
    have HO7 := hidP ho7
    clear hp6 hp7 ho6 ho7 hdj
    by_cases hlt : k < n
    · obtain ⟨g3, rfl⟩ := own_some oL_W8.out (by omega)
      obtain ⟨q, hgl, hq, c0, c1, c2, c3', c4, c5⟩ := rowLs0 oL_W8.out k (by rw [← HN.out]; exact hlt)
      have g3G := lo4.out g3 rfl
      have d0 := (hbel.cell g3G).trans c0
      have d1 := (hbel.cell g3G).trans c1
      have d2 := (hbel.cell g3G).trans c2
      have d3 := (hbel.cell g3G).trans c3'
      have d4 := (hbel.cell g3G).trans c4
      have d5 := (hbel.cell g3G).trans c5
      have HQk := hidP hq
      clear c0 c1 c2 c3' c4 c5 hq hbel
      cases hu : decide (now < q.u)
      · have HSt := hidP (stay_no HQk.out hu)
        have hyS : (wr.alloc (.cells #[.bool q.a.s, .int .i64 q.a.H.toInt, .int .i64 q.a.L.toInt, .string q.t, .int .i64 q.k, .int .i64 q.u] 35)).heap.size = wr.heap.size + 1 := by simp
        have one := own_oneG KAd (wr.alloc (.cells #[.bool q.a.s, .int .i64 q.a.H.toInt, .int .i64 q.a.L.toInt, .string q.t, .int .i64 q.k, .int .i64 q.u] 35)) 0 28 (q.a) (Nat.zero_le _)
        rw [hyS] at one
        have hB2 : Below wr.heap.size wr ((wr.alloc (.cells #[.bool q.a.s, .int .i64 q.a.H.toInt, .int .i64 q.a.L.toInt, .string q.t, .int .i64 q.k, .int .i64 q.u] 35)).alloc (.cells #[.bool q.a.s, .int .i64 q.a.H.toInt, .int .i64 q.a.L.toInt] 28)) := (alloc_below wr _).alloc (by simp) _
        have HZ := hidP (And.intro one (And.intro hB2 (And.intro (OwnG.later HO6.out hB2) (OwnG.later HO7.out hB2))))
        clear one hB2 hyS
        go_wp2_with (at_builtin; refine wpList_appG Tryz.tyAd _ rfl (.tmp 46) (.tmp 49) 43 rfl w3.heap.size a6 p6 c6 1 (goneL now (ls.take k)) [q.a] (.slice (some ⟨wr.heap.size + 1, 0, none⟩) 1 1) rfl HP67.out.1 rfl HZ.out.2.2.1 rfl (src_rowG Tryz.tyAd.1 1 1 (by show 0 < 3; omega) rfl HZ.out.1.row (fun h => by cases h)) (by omega) (by simp; omega) ?_; intro a9 c9 w9 ho9 hg9 ht9)
        have HA := hidP (And.intro ho9 (And.intro hg9 ht9))
        clear ho9 hg9 ht9
        go_roundw
        case rel =>
          have hz6 := fun j hj => (OwnG.lt HO6.out j hj).2
          have hz7 := fun j hj => (OwnG.lt HO7.out j hj).2
          refine ⟨k + 1, p6 + 1, p7, a9, c9, a7, c7, by omega, by go_num, rfl, rfl, ?_, ?_, ?_, ?_, ?_, ?_⟩
          · rw [HSt.out.2]; rw [List.length_append, ← HP67.out.1]; rfl
          · rw [HSt.out.1]; exact HP67.out.2
          · rw [HSt.out.2]
            exact HA.out.1
          · rw [HSt.out.1]
            exact OwnG.grown HZ.out.2.2.2 HA.out.2.1 (fun j hj he => HDj.out j hj he)
          · intro j h7 h6
            rcases HA.out.2.2 with h | h
            · rw [h] at h6
              exact HDj.out j h7 ((ob_len a6 p6 c6 (p6 + 1) c9).trans h6)
            · rw [h, ob_some, Option.some.injEq] at h6
              have h8 := hz7 j h7
              simp at h6
              omega
          · exact below_appG (HBel.out.trans (HZ.out.2.1.mono hGr)) HZ.out.2.2.1 (by simp; omega) HA.out.2.1
        case measure => simp [intOf]; omega
      · have HSt := hidP (stay_yes HQk.out hu)
        have hyS : (wr.alloc (.cells #[.bool q.a.s, .int .i64 q.a.H.toInt, .int .i64 q.a.L.toInt, .string q.t, .int .i64 q.k, .int .i64 q.u] 35)).heap.size = wr.heap.size + 1 := by simp
        have one := own_oneG KLs (wr.alloc (.cells #[.bool q.a.s, .int .i64 q.a.H.toInt, .int .i64 q.a.L.toInt, .string q.t, .int .i64 q.k, .int .i64 q.u] 35)) 0 35 (q) (Nat.zero_le _)
        rw [hyS] at one
        have hB2 : Below wr.heap.size wr ((wr.alloc (.cells #[.bool q.a.s, .int .i64 q.a.H.toInt, .int .i64 q.a.L.toInt, .string q.t, .int .i64 q.k, .int .i64 q.u] 35)).alloc (.cells #[.bool q.a.s, .int .i64 q.a.H.toInt, .int .i64 q.a.L.toInt, .string q.t, .int .i64 q.k, .int .i64 q.u] 35)) := (alloc_below wr _).alloc (by simp) _
        have HZ := hidP (And.intro one (And.intro hB2 (And.intro (OwnG.later HO6.out hB2) (OwnG.later HO7.out hB2))))
        clear one hB2 hyS
        go_wp2_with (at_builtin; refine wpList_appG Tryz.tyLs _ rfl (.tmp 42) (.tmp 44) 24 rfl w3.heap.size a7 p7 c7 1 (stayL now (ls.take k)) [q] (.slice (some ⟨wr.heap.size + 1, 0, none⟩) 1 1) rfl HP67.out.2 rfl HZ.out.2.2.2 rfl (src_rowG Tryz.tyLs.1 1 1 (by show 0 < 6; omega) rfl HZ.out.1.row (fun h => by cases h)) (by omega) (by simp; omega) ?_; intro a9 c9 w9 ho9 hg9 ht9)
        have HA := hidP (And.intro ho9 (And.intro hg9 ht9))
        clear ho9 hg9 ht9
        go_roundw
        case rel =>
          have hz6 := fun j hj => (OwnG.lt HO6.out j hj).2
          have hz7 := fun j hj => (OwnG.lt HO7.out j hj).2
          refine ⟨k + 1, p6, p7 + 1, a6, c6, a9, c9, by omega, by go_num, rfl, rfl, ?_, ?_, ?_, ?_, ?_, ?_⟩
          · rw [HSt.out.2]; exact HP67.out.1
          · rw [HSt.out.1]; rw [List.length_append, ← HP67.out.2]; rfl
          · rw [HSt.out.2]
            exact OwnG.grown HZ.out.2.2.1 HA.out.2.1 (fun j hj he => HDj.out j he hj)
          · rw [HSt.out.1]
            exact HA.out.1
          · intro j h7 h6
            rcases HA.out.2.2 with h | h
            · rw [h] at h7
              exact HDj.out j ((ob_len a7 p7 c7 (p7 + 1) c9).trans h7) h6
            · rw [h, ob_some, Option.some.injEq] at h7
              have h8 := hz6 j h6
              simp at h7
              omega
          · exact below_appG (HBel.out.trans (HZ.out.2.1.mono hGr)) HZ.out.2.2.2 (by simp; omega) HA.out.2.1
        case measure => simp [intOf]; omega
    · have hkn : k = n := by omega
      have HF6 : Hid (OwnG KAd 28 wr w3.heap.size (.slice a6 p6 c6) (goneL now ls) ∧ OwnG KLs 35 wr w3.heap.size (.slice a7 p7 c7) (stayL now ls) ∧ p6 = (goneL now ls).length ∧ p7 = (stayL now ls).length) := hidP (by
        have h6 := HO6.out; have h7 := HO7.out; have h8 := HP67.out
        rw [hkn, List.take_of_length_le (by have := HN.out; omega)] at h6 h7 h8
        exact ⟨h6, h7, h8.1, h8.2⟩)
      have qb0 := (hbel.cell HQ.out.2.2.2.2).trans bk0_W8
      have qb1 := (hbel.cell HQ.out.2.2.2.2).trans bk1_W8
      have qb2 := (hbel.cell HQ.out.2.2.2.2).trans bk2_W8
      have qbF : ∀ o, wr.frozen? ⟨w.heap.size, o, none⟩ = false := fun o => (hbel.frozen HQ.out.2.2.2.2).trans (bkF_W8 o)
      have qr0 := (hbel.cell HQ.out.2.2.2.1).trans rs0_W8
      have qr1 := (hbel.cell HQ.out.2.2.2.1).trans rs1_W8
      have qr2 := (hbel.cell HQ.out.2.2.2.1).trans rs2_W8
      have qrF : ∀ o, wr.frozen? ⟨w.heap.size + 1, o, none⟩ = false := fun o => (hbel.frozen HQ.out.2.2.2.1).trans (rsF_W8 o)
      have qL : w.heap.size < wr.heap.size := by have := HQ.out; omega
      have qM : w.heap.size + 1 < wr.heap.size := by have := HQ.out; omega
      have HAc := hidP (acc_W8.out.trans (hbel.mono (Nat.le_of_lt HQ.out.2.2.2.2)))
      clear hbel HO6 HO7 HP67 bk0_W8 bk1_W8 bk2_W8 bkF_W8 rs0_W8 rs1_W8 rs2_W8 rsF_W8
      go_wp2_with fail
      have HE := HF6.out
      obtain ⟨e6, e7, e8, e9⟩ := HE
      rw [e8] at e6
      rw [e9] at e7
      refine bodyPost_ret (v := .tuple #[.agg #[.slice a7 p7 c7, .int .i64 T, .int .i64 now], .slice a6 p6 c6]) (by simp [results, Tryz.results15, go_sem, qr0, qr1, qr2]) rfl ⟨a7, c7, a6, c6, by rw [e8, e9], ?_, ?_, ?_, ?_⟩
      · refine OwnG.mono (B := w3.heap.size) ?_ (Nat.le_of_lt HQ.out.2.2.2.2)
        iterate 4 (with_reducible refine OwnG.grown ?_ (grown_cellG _ _ _ _) ?_; rotate_left; (focus (exact OwnG.ne_of e7 (by have := HQ.out; omega))))
        with_reducible exact e7
      · refine OwnG.mono (B := w3.heap.size) ?_ (Nat.le_of_lt HQ.out.2.2.2.2)
        iterate 4 (with_reducible refine OwnG.grown ?_ (grown_cellG _ _ _ _) ?_; rotate_left; (focus (exact OwnG.ne_of e6 (by have := HQ.out; omega))))
        with_reducible exact e6
      · rw [← e8, ← e9]; exact HDj.out
      · repeat (with_reducible refine Below.setCell ?_ ?_ _; rotate_left; (focus (first | (simp; done) | (simp; omega))))
        exact HAc.out

end Go.Proofs.YtddnofonodgneaaGreatDoor
