/-
  The specification's Advance.
-/
import Derived.Test.YtddnofonodgneaaGreatDoorV6IAd
import Derived.Test.YtddnofonodgneaaGreatDoorV6SBk
namespace Go.Proofs.YtddnofonodgneaaGreatDoor
open Go.RowKit

theorem cell_oth {w : World} {b o o' : Nat} {u v : Value} (h : w.cell? ⟨b, o, none⟩ = some u) (hne : o ≠ o') : (w.setCell ⟨b, o', none⟩ v).cell? ⟨b, o, none⟩ = some u := by
  simp [go_sem, h]
theorem cell_grown {w w' : World} {r : Option Nat} {b o : Nat} {u : Value} (hg : w.grownBy w' r) (h : w.cell? ⟨b, o, none⟩ = some u) (hne : ∀ k, r = some k → k ≠ b) : w'.cell? ⟨b, o, none⟩ = some u :=
  (World.cell?_of_block (w := w) (hg.block b (World.block_lt_of_cell? w _ h) (fun e => hne b e.symm rfl))).trans h
theorem frz_grown {w w' : World} {r : Option Nat} {b o : Nat} (hg : w.grownBy w' r) (hb : b < w.heap.size) (h : w.frozen? ⟨b, o, none⟩ = false) (hne : ∀ k, r = some k → k ≠ b) : w'.frozen? ⟨b, o, none⟩ = false :=
  (World.frozen?_of_block (w := w) (hg.block b hb (fun e => hne b e.symm rfl))).trans h

set_option maxRecDepth 10000 in
set_option maxHeartbeats 4000000 in
theorem sAdv_no (a : Option Addr) (n c : Nat) (T N : Int) (ls : List Ls) (w : World) (hn : n = ls.length) (hB : RowG KLs w a ls) (hc : a = none → c = 0) (hl : n ≤ 1048576) (hst : ∀ q ∈ ls, q.t.size ≤ 9223372036854775807) (now : Int) (hr : (bkB ls T N && (decide (N < now) && decide (now ≤ 1000000000))) = false) :
    Calls Tryz.prog 57 #[.agg #[.slice a n c, .int .i64 T, .int .i64 N], .int .i64 now] w fun e w' => ∃ a' c' b' d', e = .returned (.tuple #[.agg #[.slice a' n c', .int .i64 T, .int .i64 N], .slice b' 0 d']) ∧ OwnG KLs 35 w' w.heap.size (.slice a' n c') (ls) ∧ OwnG KAd 28 w' w.heap.size (.slice b' 0 d') ([]) ∧ (∀ k, (Value.slice a' n c').ownBlock = some k → (Value.slice b' 0 d').ownBlock ≠ some k) ∧ Below w.heap.size w w' := by
  have HOw := hidP (fun W h => l6Copy_any a n c T N ls W hn (hB.later h) hc hl)
  have HSp := hidP (fun W h => sBookOk_any a n c T N ls W hn (hB.later h) hl hst)
  have HN := hidP hn
  have HR := hidP hB
  clear hB hn hst hc
  cases hb : bkB ls T N
  · rw [hb] at HSp
    clear hr
    go_enter Tryz.func57, Tryz.ntmps57
    go_wp2_with fail
    obtain ⟨bk0_W1, bk1_W1, bk2_W1⟩ := box3B w 26 (.slice a n c) (.int .i64 T) (.int .i64 N)
    have bkF_W1 : ∀ o, (w.alloc (.cells #[.slice a n c, .int .i64 T, .int .i64 N] 26)).frozen? ⟨w.heap.size, o, none⟩ = false := fun o => by simp [go_sem]
    have bkL_W1 : w.heap.size < (w.alloc (.cells #[.slice a n c, .int .i64 T, .int .i64 N] 26)).heap.size := by simp
    have ab_W1 := alloc_below w (.cells #[.slice a n c, .int .i64 T, .int .i64 N] 26)
    have as_W1 : Hid ((w.alloc (.cells #[.slice a n c, .int .i64 T, .int .i64 N] 26)).heap.size = w.heap.size + 1) := hidP (by simp)
    generalize w.alloc (.cells #[.slice a n c, .int .i64 T, .int .i64 N] 26) = W1 at *
    have acc_W1 := hidP (ab_W1)
    have sz_W1 : Hid (w.heap.size ≤ W1.heap.size) := hidP ab_W1.size
    clear ab_W1 
    obtain ⟨rs0_W2, rs1_W2, rs2_W2⟩ := box3B W1 26 (.slice none 0 0) (.int .i64 0) (.int .i64 0)
    have rsF_W2 : ∀ o, (W1.alloc (.cells #[.slice none 0 0, .int .i64 0, .int .i64 0] 26)).frozen? ⟨W1.heap.size, o, none⟩ = false := fun o => by simp [go_sem]
    have rsL_W2 : W1.heap.size < (W1.alloc (.cells #[.slice none 0 0, .int .i64 0, .int .i64 0] 26)).heap.size := by simp
    have ab_W2 := alloc_below W1 (.cells #[.slice none 0 0, .int .i64 0, .int .i64 0] 26)
    have as_W2 : Hid ((W1.alloc (.cells #[.slice none 0 0, .int .i64 0, .int .i64 0] 26)).heap.size = W1.heap.size + 1) := hidP (by simp)
    generalize W1.alloc (.cells #[.slice none 0 0, .int .i64 0, .int .i64 0] 26) = W2 at *
    have bk0_W2 := (ab_W2.cell bkL_W1).trans bk0_W1
    have bk1_W2 := (ab_W2.cell bkL_W1).trans bk1_W1
    have bk2_W2 := (ab_W2.cell bkL_W1).trans bk2_W1
    have bkF_W2 : ∀ o, W2.frozen? ⟨w.heap.size, o, none⟩ = false := fun o => (ab_W2.frozen bkL_W1).trans (bkF_W1 o)
    have bkL_W2 : w.heap.size < W2.heap.size := Nat.lt_of_lt_of_le bkL_W1 ab_W2.size
    have acc_W2 := hidP (acc_W1.out.trans (ab_W2.mono acc_W1.out.size))
    have sz_W2 : Hid (W1.heap.size ≤ W2.heap.size) := hidP ab_W2.size
    clear ab_W2 bk0_W1 bk1_W1 bk2_W1 bkF_W1 bkL_W1 acc_W1
    have eW1 := as_W1.out
    rw [eW1] at rs0_W2 rs1_W2 rs2_W2 rsL_W2
    have rsF_W2' : ∀ o, W2.frozen? ⟨w.heap.size + 1, o, none⟩ = false := fun o => by have := rsF_W2 o; rw [eW1] at this; exact this
    clear rsF_W2 eW1
    have rsF_W2 := rsF_W2'
    clear rsF_W2'
    refine (HOw.out _ acc_W2.out).mono ?_
    rintro e w3 ⟨a3, c3, rfl, og3, hb3⟩
    have lo3 := hidP (fun k hk => OwnG.lt og3 k hk)
    have og3' := hidP og3
    clear og3
    have bk0_w3 := (hb3.cell bkL_W2).trans bk0_W2
    have bk1_w3 := (hb3.cell bkL_W2).trans bk1_W2
    have bk2_w3 := (hb3.cell bkL_W2).trans bk2_W2
    have bkF_w3 : ∀ o, w3.frozen? ⟨w.heap.size, o, none⟩ = false := fun o => (hb3.frozen bkL_W2).trans (bkF_W2 o)
    have bkL_w3 : w.heap.size < w3.heap.size := Nat.lt_of_lt_of_le bkL_W2 hb3.size
    have rs0_w3 := (hb3.cell rsL_W2).trans rs0_W2
    have rs1_w3 := (hb3.cell rsL_W2).trans rs1_W2
    have rs2_w3 := (hb3.cell rsL_W2).trans rs2_W2
    have rsF_w3 : ∀ o, w3.frozen? ⟨w.heap.size + 1, o, none⟩ = false := fun o => (hb3.frozen rsL_W2).trans (rsF_W2 o)
    have rsL_w3 : w.heap.size + 1 < w3.heap.size := Nat.lt_of_lt_of_le rsL_W2 hb3.size
    have acc_w3 := hidP (acc_W2.out.trans (hb3.mono acc_W2.out.size))
    have sz_w3 : Hid (W2.heap.size ≤ w3.heap.size) := hidP hb3.size
    clear hb3 bk0_W2 bk1_W2 bk2_W2 bkF_W2 bkL_W2 rs0_W2 rs1_W2 rs2_W2 rsF_W2 rsL_W2 acc_W2
    have oL_w3 := hidP (og3'.out)
    go_wp2_with fail
    obtain ⟨ou0_W4, ou1_W4, ou2_W4⟩ := box3B w3 26 (.slice a3 n c3) (.int .i64 T) (.int .i64 N)
    have ouF_W4 : ∀ o, (w3.alloc (.cells #[.slice a3 n c3, .int .i64 T, .int .i64 N] 26)).frozen? ⟨w3.heap.size, o, none⟩ = false := fun o => by simp [go_sem]
    have ouL_W4 : w3.heap.size < (w3.alloc (.cells #[.slice a3 n c3, .int .i64 T, .int .i64 N] 26)).heap.size := by simp
    have ab_W4 := alloc_below w3 (.cells #[.slice a3 n c3, .int .i64 T, .int .i64 N] 26)
    have as_W4 : Hid ((w3.alloc (.cells #[.slice a3 n c3, .int .i64 T, .int .i64 N] 26)).heap.size = w3.heap.size + 1) := hidP (by simp)
    generalize w3.alloc (.cells #[.slice a3 n c3, .int .i64 T, .int .i64 N] 26) = W4 at *
    have bk0_W4 := (ab_W4.cell bkL_w3).trans bk0_w3
    have bk1_W4 := (ab_W4.cell bkL_w3).trans bk1_w3
    have bk2_W4 := (ab_W4.cell bkL_w3).trans bk2_w3
    have bkF_W4 : ∀ o, W4.frozen? ⟨w.heap.size, o, none⟩ = false := fun o => (ab_W4.frozen bkL_w3).trans (bkF_w3 o)
    have bkL_W4 : w.heap.size < W4.heap.size := Nat.lt_of_lt_of_le bkL_w3 ab_W4.size
    have rs0_W4 := (ab_W4.cell rsL_w3).trans rs0_w3
    have rs1_W4 := (ab_W4.cell rsL_w3).trans rs1_w3
    have rs2_W4 := (ab_W4.cell rsL_w3).trans rs2_w3
    have rsF_W4 : ∀ o, W4.frozen? ⟨w.heap.size + 1, o, none⟩ = false := fun o => (ab_W4.frozen rsL_w3).trans (rsF_w3 o)
    have rsL_W4 : w.heap.size + 1 < W4.heap.size := Nat.lt_of_lt_of_le rsL_w3 ab_W4.size
    have oL_W4 := hidP (OwnG.later oL_w3.out ab_W4)
    have acc_W4 := hidP (acc_w3.out.trans (ab_W4.mono acc_w3.out.size))
    have sz_W4 : Hid (w3.heap.size ≤ W4.heap.size) := hidP ab_W4.size
    clear ab_W4 bk0_w3 bk1_w3 bk2_w3 bkF_w3 bkL_w3 rs0_w3 rs1_w3 rs2_w3 rsF_w3 rsL_w3 oL_w3 acc_w3
    have zG := own_zeroG KAd W4 W4.heap.size 28 (Nat.le_refl _)
    rw [as_W4.out] at zG
    have ab5 := alloc_below W4 (.cells #[] 28)
    have as5 : Hid ((W4.alloc (.cells #[] 28)).heap.size = W4.heap.size + 1) := hidP (by simp)
    generalize W4.alloc (.cells #[] 28) = W5 at *
    have bk0_W5 := (ab5.cell bkL_W4).trans bk0_W4
    have bk1_W5 := (ab5.cell bkL_W4).trans bk1_W4
    have bk2_W5 := (ab5.cell bkL_W4).trans bk2_W4
    have bkF_W5 : ∀ o, W5.frozen? ⟨w.heap.size, o, none⟩ = false := fun o => (ab5.frozen bkL_W4).trans (bkF_W4 o)
    have bkL_W5 : w.heap.size < W5.heap.size := Nat.lt_of_lt_of_le bkL_W4 ab5.size
    have rs0_W5 := (ab5.cell rsL_W4).trans rs0_W4
    have rs1_W5 := (ab5.cell rsL_W4).trans rs1_W4
    have rs2_W5 := (ab5.cell rsL_W4).trans rs2_W4
    have rsF_W5 : ∀ o, W5.frozen? ⟨w.heap.size + 1, o, none⟩ = false := fun o => (ab5.frozen rsL_W4).trans (rsF_W4 o)
    have rsL_W5 : w.heap.size + 1 < W5.heap.size := Nat.lt_of_lt_of_le rsL_W4 ab5.size
    have ou0_W5 := (ab5.cell ouL_W4).trans ou0_W4
    have ou1_W5 := (ab5.cell ouL_W4).trans ou1_W4
    have ou2_W5 := (ab5.cell ouL_W4).trans ou2_W4
    have ouF_W5 : ∀ o, W5.frozen? ⟨w3.heap.size, o, none⟩ = false := fun o => (ab5.frozen ouL_W4).trans (ouF_W4 o)
    have ouL_W5 : w3.heap.size < W5.heap.size := Nat.lt_of_lt_of_le ouL_W4 ab5.size
    have oL_W5 := hidP (OwnG.later oL_W4.out ab5)
    have acc_W5 := hidP (acc_W4.out.trans (ab5.mono acc_W4.out.size))
    have sz_W5 : Hid (W4.heap.size ≤ W5.heap.size) := hidP ab5.size
    clear ab5 bk0_W4 bk1_W4 bk2_W4 bkF_W4 bkL_W4 rs0_W4 rs1_W4 rs2_W4 rsF_W4 rsL_W4 ou0_W4 ou1_W4 ou2_W4 ouF_W4 ouL_W4 oL_W4 acc_W4
    have oG_W5 := hidP (zG)
    clear zG
    refine (HSp.out _ acc_W5.out).mono ?_
    rintro e w6 ⟨rfl, hb6⟩
    have bk0_w6 := (hb6.cell bkL_W5).trans bk0_W5
    have bk1_w6 := (hb6.cell bkL_W5).trans bk1_W5
    have bk2_w6 := (hb6.cell bkL_W5).trans bk2_W5
    have bkF_w6 : ∀ o, w6.frozen? ⟨w.heap.size, o, none⟩ = false := fun o => (hb6.frozen bkL_W5).trans (bkF_W5 o)
    have bkL_w6 : w.heap.size < w6.heap.size := Nat.lt_of_lt_of_le bkL_W5 hb6.size
    have rs0_w6 := (hb6.cell rsL_W5).trans rs0_W5
    have rs1_w6 := (hb6.cell rsL_W5).trans rs1_W5
    have rs2_w6 := (hb6.cell rsL_W5).trans rs2_W5
    have rsF_w6 : ∀ o, w6.frozen? ⟨w.heap.size + 1, o, none⟩ = false := fun o => (hb6.frozen rsL_W5).trans (rsF_W5 o)
    have rsL_w6 : w.heap.size + 1 < w6.heap.size := Nat.lt_of_lt_of_le rsL_W5 hb6.size
    have ou0_w6 := (hb6.cell ouL_W5).trans ou0_W5
    have ou1_w6 := (hb6.cell ouL_W5).trans ou1_W5
    have ou2_w6 := (hb6.cell ouL_W5).trans ou2_W5
    have ouF_w6 : ∀ o, w6.frozen? ⟨w3.heap.size, o, none⟩ = false := fun o => (hb6.frozen ouL_W5).trans (ouF_W5 o)
    have ouL_w6 : w3.heap.size < w6.heap.size := Nat.lt_of_lt_of_le ouL_W5 hb6.size
    have oL_w6 := hidP (OwnG.later oL_W5.out hb6)
    have oG_w6 := hidP (OwnG.later oG_W5.out hb6)
    have acc_w6 := hidP (acc_W5.out.trans (hb6.mono acc_W5.out.size))
    have sz_w6 : Hid (W5.heap.size ≤ w6.heap.size) := hidP hb6.size
    clear hb6 bk0_W5 bk1_W5 bk2_W5 bkF_W5 bkL_W5 rs0_W5 rs1_W5 rs2_W5 rsF_W5 rsL_W5 ou0_W5 ou1_W5 ou2_W5 ouF_W5 ouL_W5 oL_W5 oG_W5 acc_W5
    go_wp2_with fail
    refine bodyPost_ret (v := .tuple #[.agg #[.slice a3 n c3, .int .i64 T, .int .i64 N], .slice (some ⟨w3.heap.size + 1, 0, none⟩) 0 0]) (by simp [results, Tryz.results57, go_sem, rs0_w6, rs1_w6, rs2_w6]) rfl ⟨_, _, _, _, rfl, ?_, ?_, ?_, ?_⟩
    · refine OwnG.mono (B := W2.heap.size) ?_ (by have := as_W1.out; have := sz_W1.out; have := as_W2.out; have := sz_W2.out; have := sz_w3.out; have := as_W4.out; have := sz_W4.out; have := as5.out; have := sz_W5.out; have := sz_w6.out; omega)
      iterate 3 (with_reducible refine OwnG.grown ?_ (grown_cellG _ _ _ _) ?_; rotate_left; (focus (exact OwnG.ne_of oL_w6.out (by have := as_W1.out; have := sz_W1.out; have := as_W2.out; have := sz_W2.out; have := sz_w3.out; have := as_W4.out; have := sz_W4.out; have := as5.out; have := sz_W5.out; have := sz_w6.out; omega))))
      with_reducible exact oL_w6.out
    · refine OwnG.mono (B := w3.heap.size + 1) ?_ (by have := as_W1.out; have := sz_W1.out; have := as_W2.out; have := sz_W2.out; have := sz_w3.out; have := as_W4.out; have := sz_W4.out; have := as5.out; have := sz_W5.out; have := sz_w6.out; omega)
      iterate 3 (with_reducible refine OwnG.grown ?_ (grown_cellG _ _ _ _) ?_; rotate_left; (focus (exact OwnG.ne_of oG_w6.out (by have := as_W1.out; have := sz_W1.out; have := as_W2.out; have := sz_W2.out; have := sz_w3.out; have := as_W4.out; have := sz_W4.out; have := as5.out; have := sz_W5.out; have := sz_w6.out; omega))))
      with_reducible exact oG_w6.out
    · intro k h1 h2
      have h3 := (lo3.out k h1).2
      rw [ob_some, Option.some.injEq] at h2
      omega
    · repeat (with_reducible refine Below.setCell ?_ ?_ _; rotate_left; (focus (first | (simp; done) | (simp; omega))))
      exact acc_w6.out
  · rw [hb] at HSp hr
    rw [Bool.true_and] at hr
    cases h1 : decide (now ≤ N)
    · have h2 : decide ((1000000000 : Int) < now) = true := by
        have h1' := of_decide_eq_false h1
        rw [decide_eq_true (by omega : N < now), Bool.true_and] at hr
        have := of_decide_eq_false hr
        exact decide_eq_true (by omega)
      clear hr
      go_enter Tryz.func57, Tryz.ntmps57
      go_wp2_with fail
      obtain ⟨bk0_W1, bk1_W1, bk2_W1⟩ := box3B w 26 (.slice a n c) (.int .i64 T) (.int .i64 N)
      have bkF_W1 : ∀ o, (w.alloc (.cells #[.slice a n c, .int .i64 T, .int .i64 N] 26)).frozen? ⟨w.heap.size, o, none⟩ = false := fun o => by simp [go_sem]
      have bkL_W1 : w.heap.size < (w.alloc (.cells #[.slice a n c, .int .i64 T, .int .i64 N] 26)).heap.size := by simp
      have ab_W1 := alloc_below w (.cells #[.slice a n c, .int .i64 T, .int .i64 N] 26)
      have as_W1 : Hid ((w.alloc (.cells #[.slice a n c, .int .i64 T, .int .i64 N] 26)).heap.size = w.heap.size + 1) := hidP (by simp)
      generalize w.alloc (.cells #[.slice a n c, .int .i64 T, .int .i64 N] 26) = W1 at *
      have acc_W1 := hidP (ab_W1)
      have sz_W1 : Hid (w.heap.size ≤ W1.heap.size) := hidP ab_W1.size
      clear ab_W1 
      obtain ⟨rs0_W2, rs1_W2, rs2_W2⟩ := box3B W1 26 (.slice none 0 0) (.int .i64 0) (.int .i64 0)
      have rsF_W2 : ∀ o, (W1.alloc (.cells #[.slice none 0 0, .int .i64 0, .int .i64 0] 26)).frozen? ⟨W1.heap.size, o, none⟩ = false := fun o => by simp [go_sem]
      have rsL_W2 : W1.heap.size < (W1.alloc (.cells #[.slice none 0 0, .int .i64 0, .int .i64 0] 26)).heap.size := by simp
      have ab_W2 := alloc_below W1 (.cells #[.slice none 0 0, .int .i64 0, .int .i64 0] 26)
      have as_W2 : Hid ((W1.alloc (.cells #[.slice none 0 0, .int .i64 0, .int .i64 0] 26)).heap.size = W1.heap.size + 1) := hidP (by simp)
      generalize W1.alloc (.cells #[.slice none 0 0, .int .i64 0, .int .i64 0] 26) = W2 at *
      have bk0_W2 := (ab_W2.cell bkL_W1).trans bk0_W1
      have bk1_W2 := (ab_W2.cell bkL_W1).trans bk1_W1
      have bk2_W2 := (ab_W2.cell bkL_W1).trans bk2_W1
      have bkF_W2 : ∀ o, W2.frozen? ⟨w.heap.size, o, none⟩ = false := fun o => (ab_W2.frozen bkL_W1).trans (bkF_W1 o)
      have bkL_W2 : w.heap.size < W2.heap.size := Nat.lt_of_lt_of_le bkL_W1 ab_W2.size
      have acc_W2 := hidP (acc_W1.out.trans (ab_W2.mono acc_W1.out.size))
      have sz_W2 : Hid (W1.heap.size ≤ W2.heap.size) := hidP ab_W2.size
      clear ab_W2 bk0_W1 bk1_W1 bk2_W1 bkF_W1 bkL_W1 acc_W1
      have eW1 := as_W1.out
      rw [eW1] at rs0_W2 rs1_W2 rs2_W2 rsL_W2
      have rsF_W2' : ∀ o, W2.frozen? ⟨w.heap.size + 1, o, none⟩ = false := fun o => by have := rsF_W2 o; rw [eW1] at this; exact this
      clear rsF_W2 eW1
      have rsF_W2 := rsF_W2'
      clear rsF_W2'
      refine (HOw.out _ acc_W2.out).mono ?_
      rintro e w3 ⟨a3, c3, rfl, og3, hb3⟩
      have lo3 := hidP (fun k hk => OwnG.lt og3 k hk)
      have og3' := hidP og3
      clear og3
      have bk0_w3 := (hb3.cell bkL_W2).trans bk0_W2
      have bk1_w3 := (hb3.cell bkL_W2).trans bk1_W2
      have bk2_w3 := (hb3.cell bkL_W2).trans bk2_W2
      have bkF_w3 : ∀ o, w3.frozen? ⟨w.heap.size, o, none⟩ = false := fun o => (hb3.frozen bkL_W2).trans (bkF_W2 o)
      have bkL_w3 : w.heap.size < w3.heap.size := Nat.lt_of_lt_of_le bkL_W2 hb3.size
      have rs0_w3 := (hb3.cell rsL_W2).trans rs0_W2
      have rs1_w3 := (hb3.cell rsL_W2).trans rs1_W2
      have rs2_w3 := (hb3.cell rsL_W2).trans rs2_W2
      have rsF_w3 : ∀ o, w3.frozen? ⟨w.heap.size + 1, o, none⟩ = false := fun o => (hb3.frozen rsL_W2).trans (rsF_W2 o)
      have rsL_w3 : w.heap.size + 1 < w3.heap.size := Nat.lt_of_lt_of_le rsL_W2 hb3.size
      have acc_w3 := hidP (acc_W2.out.trans (hb3.mono acc_W2.out.size))
      have sz_w3 : Hid (W2.heap.size ≤ w3.heap.size) := hidP hb3.size
      clear hb3 bk0_W2 bk1_W2 bk2_W2 bkF_W2 bkL_W2 rs0_W2 rs1_W2 rs2_W2 rsF_W2 rsL_W2 acc_W2
      have oL_w3 := hidP (og3'.out)
      go_wp2_with fail
      obtain ⟨ou0_W4, ou1_W4, ou2_W4⟩ := box3B w3 26 (.slice a3 n c3) (.int .i64 T) (.int .i64 N)
      have ouF_W4 : ∀ o, (w3.alloc (.cells #[.slice a3 n c3, .int .i64 T, .int .i64 N] 26)).frozen? ⟨w3.heap.size, o, none⟩ = false := fun o => by simp [go_sem]
      have ouL_W4 : w3.heap.size < (w3.alloc (.cells #[.slice a3 n c3, .int .i64 T, .int .i64 N] 26)).heap.size := by simp
      have ab_W4 := alloc_below w3 (.cells #[.slice a3 n c3, .int .i64 T, .int .i64 N] 26)
      have as_W4 : Hid ((w3.alloc (.cells #[.slice a3 n c3, .int .i64 T, .int .i64 N] 26)).heap.size = w3.heap.size + 1) := hidP (by simp)
      generalize w3.alloc (.cells #[.slice a3 n c3, .int .i64 T, .int .i64 N] 26) = W4 at *
      have bk0_W4 := (ab_W4.cell bkL_w3).trans bk0_w3
      have bk1_W4 := (ab_W4.cell bkL_w3).trans bk1_w3
      have bk2_W4 := (ab_W4.cell bkL_w3).trans bk2_w3
      have bkF_W4 : ∀ o, W4.frozen? ⟨w.heap.size, o, none⟩ = false := fun o => (ab_W4.frozen bkL_w3).trans (bkF_w3 o)
      have bkL_W4 : w.heap.size < W4.heap.size := Nat.lt_of_lt_of_le bkL_w3 ab_W4.size
      have rs0_W4 := (ab_W4.cell rsL_w3).trans rs0_w3
      have rs1_W4 := (ab_W4.cell rsL_w3).trans rs1_w3
      have rs2_W4 := (ab_W4.cell rsL_w3).trans rs2_w3
      have rsF_W4 : ∀ o, W4.frozen? ⟨w.heap.size + 1, o, none⟩ = false := fun o => (ab_W4.frozen rsL_w3).trans (rsF_w3 o)
      have rsL_W4 : w.heap.size + 1 < W4.heap.size := Nat.lt_of_lt_of_le rsL_w3 ab_W4.size
      have oL_W4 := hidP (OwnG.later oL_w3.out ab_W4)
      have acc_W4 := hidP (acc_w3.out.trans (ab_W4.mono acc_w3.out.size))
      have sz_W4 : Hid (w3.heap.size ≤ W4.heap.size) := hidP ab_W4.size
      clear ab_W4 bk0_w3 bk1_w3 bk2_w3 bkF_w3 bkL_w3 rs0_w3 rs1_w3 rs2_w3 rsF_w3 rsL_w3 oL_w3 acc_w3
      have zG := own_zeroG KAd W4 W4.heap.size 28 (Nat.le_refl _)
      rw [as_W4.out] at zG
      have ab5 := alloc_below W4 (.cells #[] 28)
      have as5 : Hid ((W4.alloc (.cells #[] 28)).heap.size = W4.heap.size + 1) := hidP (by simp)
      generalize W4.alloc (.cells #[] 28) = W5 at *
      have bk0_W5 := (ab5.cell bkL_W4).trans bk0_W4
      have bk1_W5 := (ab5.cell bkL_W4).trans bk1_W4
      have bk2_W5 := (ab5.cell bkL_W4).trans bk2_W4
      have bkF_W5 : ∀ o, W5.frozen? ⟨w.heap.size, o, none⟩ = false := fun o => (ab5.frozen bkL_W4).trans (bkF_W4 o)
      have bkL_W5 : w.heap.size < W5.heap.size := Nat.lt_of_lt_of_le bkL_W4 ab5.size
      have rs0_W5 := (ab5.cell rsL_W4).trans rs0_W4
      have rs1_W5 := (ab5.cell rsL_W4).trans rs1_W4
      have rs2_W5 := (ab5.cell rsL_W4).trans rs2_W4
      have rsF_W5 : ∀ o, W5.frozen? ⟨w.heap.size + 1, o, none⟩ = false := fun o => (ab5.frozen rsL_W4).trans (rsF_W4 o)
      have rsL_W5 : w.heap.size + 1 < W5.heap.size := Nat.lt_of_lt_of_le rsL_W4 ab5.size
      have ou0_W5 := (ab5.cell ouL_W4).trans ou0_W4
      have ou1_W5 := (ab5.cell ouL_W4).trans ou1_W4
      have ou2_W5 := (ab5.cell ouL_W4).trans ou2_W4
      have ouF_W5 : ∀ o, W5.frozen? ⟨w3.heap.size, o, none⟩ = false := fun o => (ab5.frozen ouL_W4).trans (ouF_W4 o)
      have ouL_W5 : w3.heap.size < W5.heap.size := Nat.lt_of_lt_of_le ouL_W4 ab5.size
      have oL_W5 := hidP (OwnG.later oL_W4.out ab5)
      have acc_W5 := hidP (acc_W4.out.trans (ab5.mono acc_W4.out.size))
      have sz_W5 : Hid (W4.heap.size ≤ W5.heap.size) := hidP ab5.size
      clear ab5 bk0_W4 bk1_W4 bk2_W4 bkF_W4 bkL_W4 rs0_W4 rs1_W4 rs2_W4 rsF_W4 rsL_W4 ou0_W4 ou1_W4 ou2_W4 ouF_W4 ouL_W4 oL_W4 acc_W4
      have oG_W5 := hidP (zG)
      clear zG
      refine (HSp.out _ acc_W5.out).mono ?_
      rintro e w6 ⟨rfl, hb6⟩
      have bk0_w6 := (hb6.cell bkL_W5).trans bk0_W5
      have bk1_w6 := (hb6.cell bkL_W5).trans bk1_W5
      have bk2_w6 := (hb6.cell bkL_W5).trans bk2_W5
      have bkF_w6 : ∀ o, w6.frozen? ⟨w.heap.size, o, none⟩ = false := fun o => (hb6.frozen bkL_W5).trans (bkF_W5 o)
      have bkL_w6 : w.heap.size < w6.heap.size := Nat.lt_of_lt_of_le bkL_W5 hb6.size
      have rs0_w6 := (hb6.cell rsL_W5).trans rs0_W5
      have rs1_w6 := (hb6.cell rsL_W5).trans rs1_W5
      have rs2_w6 := (hb6.cell rsL_W5).trans rs2_W5
      have rsF_w6 : ∀ o, w6.frozen? ⟨w.heap.size + 1, o, none⟩ = false := fun o => (hb6.frozen rsL_W5).trans (rsF_W5 o)
      have rsL_w6 : w.heap.size + 1 < w6.heap.size := Nat.lt_of_lt_of_le rsL_W5 hb6.size
      have ou0_w6 := (hb6.cell ouL_W5).trans ou0_W5
      have ou1_w6 := (hb6.cell ouL_W5).trans ou1_W5
      have ou2_w6 := (hb6.cell ouL_W5).trans ou2_W5
      have ouF_w6 : ∀ o, w6.frozen? ⟨w3.heap.size, o, none⟩ = false := fun o => (hb6.frozen ouL_W5).trans (ouF_W5 o)
      have ouL_w6 : w3.heap.size < w6.heap.size := Nat.lt_of_lt_of_le ouL_W5 hb6.size
      have oL_w6 := hidP (OwnG.later oL_W5.out hb6)
      have oG_w6 := hidP (OwnG.later oG_W5.out hb6)
      have acc_w6 := hidP (acc_W5.out.trans (hb6.mono acc_W5.out.size))
      have sz_w6 : Hid (W5.heap.size ≤ w6.heap.size) := hidP hb6.size
      clear hb6 bk0_W5 bk1_W5 bk2_W5 bkF_W5 bkL_W5 rs0_W5 rs1_W5 rs2_W5 rsF_W5 rsL_W5 ou0_W5 ou1_W5 ou2_W5 ouF_W5 ouL_W5 oL_W5 oG_W5 acc_W5
      go_wp2_with fail
      refine bodyPost_ret (v := .tuple #[.agg #[.slice a3 n c3, .int .i64 T, .int .i64 N], .slice (some ⟨w3.heap.size + 1, 0, none⟩) 0 0]) (by simp [results, Tryz.results57, go_sem, rs0_w6, rs1_w6, rs2_w6]) rfl ⟨_, _, _, _, rfl, ?_, ?_, ?_, ?_⟩
      · refine OwnG.mono (B := W2.heap.size) ?_ (by have := as_W1.out; have := sz_W1.out; have := as_W2.out; have := sz_W2.out; have := sz_w3.out; have := as_W4.out; have := sz_W4.out; have := as5.out; have := sz_W5.out; have := sz_w6.out; omega)
        iterate 3 (with_reducible refine OwnG.grown ?_ (grown_cellG _ _ _ _) ?_; rotate_left; (focus (exact OwnG.ne_of oL_w6.out (by have := as_W1.out; have := sz_W1.out; have := as_W2.out; have := sz_W2.out; have := sz_w3.out; have := as_W4.out; have := sz_W4.out; have := as5.out; have := sz_W5.out; have := sz_w6.out; omega))))
        with_reducible exact oL_w6.out
      · refine OwnG.mono (B := w3.heap.size + 1) ?_ (by have := as_W1.out; have := sz_W1.out; have := as_W2.out; have := sz_W2.out; have := sz_w3.out; have := as_W4.out; have := sz_W4.out; have := as5.out; have := sz_W5.out; have := sz_w6.out; omega)
        iterate 3 (with_reducible refine OwnG.grown ?_ (grown_cellG _ _ _ _) ?_; rotate_left; (focus (exact OwnG.ne_of oG_w6.out (by have := as_W1.out; have := sz_W1.out; have := as_W2.out; have := sz_W2.out; have := sz_w3.out; have := as_W4.out; have := sz_W4.out; have := as5.out; have := sz_W5.out; have := sz_w6.out; omega))))
        with_reducible exact oG_w6.out
      · intro k h1 h2
        have h3 := (lo3.out k h1).2
        rw [ob_some, Option.some.injEq] at h2
        omega
      · repeat (with_reducible refine Below.setCell ?_ ?_ _; rotate_left; (focus (first | (simp; done) | (simp; omega))))
        exact acc_w6.out
    · clear hr
      go_enter Tryz.func57, Tryz.ntmps57
      go_wp2_with fail
      obtain ⟨bk0_W1, bk1_W1, bk2_W1⟩ := box3B w 26 (.slice a n c) (.int .i64 T) (.int .i64 N)
      have bkF_W1 : ∀ o, (w.alloc (.cells #[.slice a n c, .int .i64 T, .int .i64 N] 26)).frozen? ⟨w.heap.size, o, none⟩ = false := fun o => by simp [go_sem]
      have bkL_W1 : w.heap.size < (w.alloc (.cells #[.slice a n c, .int .i64 T, .int .i64 N] 26)).heap.size := by simp
      have ab_W1 := alloc_below w (.cells #[.slice a n c, .int .i64 T, .int .i64 N] 26)
      have as_W1 : Hid ((w.alloc (.cells #[.slice a n c, .int .i64 T, .int .i64 N] 26)).heap.size = w.heap.size + 1) := hidP (by simp)
      generalize w.alloc (.cells #[.slice a n c, .int .i64 T, .int .i64 N] 26) = W1 at *
      have acc_W1 := hidP (ab_W1)
      have sz_W1 : Hid (w.heap.size ≤ W1.heap.size) := hidP ab_W1.size
      clear ab_W1 
      obtain ⟨rs0_W2, rs1_W2, rs2_W2⟩ := box3B W1 26 (.slice none 0 0) (.int .i64 0) (.int .i64 0)
      have rsF_W2 : ∀ o, (W1.alloc (.cells #[.slice none 0 0, .int .i64 0, .int .i64 0] 26)).frozen? ⟨W1.heap.size, o, none⟩ = false := fun o => by simp [go_sem]
      have rsL_W2 : W1.heap.size < (W1.alloc (.cells #[.slice none 0 0, .int .i64 0, .int .i64 0] 26)).heap.size := by simp
      have ab_W2 := alloc_below W1 (.cells #[.slice none 0 0, .int .i64 0, .int .i64 0] 26)
      have as_W2 : Hid ((W1.alloc (.cells #[.slice none 0 0, .int .i64 0, .int .i64 0] 26)).heap.size = W1.heap.size + 1) := hidP (by simp)
      generalize W1.alloc (.cells #[.slice none 0 0, .int .i64 0, .int .i64 0] 26) = W2 at *
      have bk0_W2 := (ab_W2.cell bkL_W1).trans bk0_W1
      have bk1_W2 := (ab_W2.cell bkL_W1).trans bk1_W1
      have bk2_W2 := (ab_W2.cell bkL_W1).trans bk2_W1
      have bkF_W2 : ∀ o, W2.frozen? ⟨w.heap.size, o, none⟩ = false := fun o => (ab_W2.frozen bkL_W1).trans (bkF_W1 o)
      have bkL_W2 : w.heap.size < W2.heap.size := Nat.lt_of_lt_of_le bkL_W1 ab_W2.size
      have acc_W2 := hidP (acc_W1.out.trans (ab_W2.mono acc_W1.out.size))
      have sz_W2 : Hid (W1.heap.size ≤ W2.heap.size) := hidP ab_W2.size
      clear ab_W2 bk0_W1 bk1_W1 bk2_W1 bkF_W1 bkL_W1 acc_W1
      have eW1 := as_W1.out
      rw [eW1] at rs0_W2 rs1_W2 rs2_W2 rsL_W2
      have rsF_W2' : ∀ o, W2.frozen? ⟨w.heap.size + 1, o, none⟩ = false := fun o => by have := rsF_W2 o; rw [eW1] at this; exact this
      clear rsF_W2 eW1
      have rsF_W2 := rsF_W2'
      clear rsF_W2'
      refine (HOw.out _ acc_W2.out).mono ?_
      rintro e w3 ⟨a3, c3, rfl, og3, hb3⟩
      have lo3 := hidP (fun k hk => OwnG.lt og3 k hk)
      have og3' := hidP og3
      clear og3
      have bk0_w3 := (hb3.cell bkL_W2).trans bk0_W2
      have bk1_w3 := (hb3.cell bkL_W2).trans bk1_W2
      have bk2_w3 := (hb3.cell bkL_W2).trans bk2_W2
      have bkF_w3 : ∀ o, w3.frozen? ⟨w.heap.size, o, none⟩ = false := fun o => (hb3.frozen bkL_W2).trans (bkF_W2 o)
      have bkL_w3 : w.heap.size < w3.heap.size := Nat.lt_of_lt_of_le bkL_W2 hb3.size
      have rs0_w3 := (hb3.cell rsL_W2).trans rs0_W2
      have rs1_w3 := (hb3.cell rsL_W2).trans rs1_W2
      have rs2_w3 := (hb3.cell rsL_W2).trans rs2_W2
      have rsF_w3 : ∀ o, w3.frozen? ⟨w.heap.size + 1, o, none⟩ = false := fun o => (hb3.frozen rsL_W2).trans (rsF_W2 o)
      have rsL_w3 : w.heap.size + 1 < w3.heap.size := Nat.lt_of_lt_of_le rsL_W2 hb3.size
      have acc_w3 := hidP (acc_W2.out.trans (hb3.mono acc_W2.out.size))
      have sz_w3 : Hid (W2.heap.size ≤ w3.heap.size) := hidP hb3.size
      clear hb3 bk0_W2 bk1_W2 bk2_W2 bkF_W2 bkL_W2 rs0_W2 rs1_W2 rs2_W2 rsF_W2 rsL_W2 acc_W2
      have oL_w3 := hidP (og3'.out)
      go_wp2_with fail
      obtain ⟨ou0_W4, ou1_W4, ou2_W4⟩ := box3B w3 26 (.slice a3 n c3) (.int .i64 T) (.int .i64 N)
      have ouF_W4 : ∀ o, (w3.alloc (.cells #[.slice a3 n c3, .int .i64 T, .int .i64 N] 26)).frozen? ⟨w3.heap.size, o, none⟩ = false := fun o => by simp [go_sem]
      have ouL_W4 : w3.heap.size < (w3.alloc (.cells #[.slice a3 n c3, .int .i64 T, .int .i64 N] 26)).heap.size := by simp
      have ab_W4 := alloc_below w3 (.cells #[.slice a3 n c3, .int .i64 T, .int .i64 N] 26)
      have as_W4 : Hid ((w3.alloc (.cells #[.slice a3 n c3, .int .i64 T, .int .i64 N] 26)).heap.size = w3.heap.size + 1) := hidP (by simp)
      generalize w3.alloc (.cells #[.slice a3 n c3, .int .i64 T, .int .i64 N] 26) = W4 at *
      have bk0_W4 := (ab_W4.cell bkL_w3).trans bk0_w3
      have bk1_W4 := (ab_W4.cell bkL_w3).trans bk1_w3
      have bk2_W4 := (ab_W4.cell bkL_w3).trans bk2_w3
      have bkF_W4 : ∀ o, W4.frozen? ⟨w.heap.size, o, none⟩ = false := fun o => (ab_W4.frozen bkL_w3).trans (bkF_w3 o)
      have bkL_W4 : w.heap.size < W4.heap.size := Nat.lt_of_lt_of_le bkL_w3 ab_W4.size
      have rs0_W4 := (ab_W4.cell rsL_w3).trans rs0_w3
      have rs1_W4 := (ab_W4.cell rsL_w3).trans rs1_w3
      have rs2_W4 := (ab_W4.cell rsL_w3).trans rs2_w3
      have rsF_W4 : ∀ o, W4.frozen? ⟨w.heap.size + 1, o, none⟩ = false := fun o => (ab_W4.frozen rsL_w3).trans (rsF_w3 o)
      have rsL_W4 : w.heap.size + 1 < W4.heap.size := Nat.lt_of_lt_of_le rsL_w3 ab_W4.size
      have oL_W4 := hidP (OwnG.later oL_w3.out ab_W4)
      have acc_W4 := hidP (acc_w3.out.trans (ab_W4.mono acc_w3.out.size))
      have sz_W4 : Hid (w3.heap.size ≤ W4.heap.size) := hidP ab_W4.size
      clear ab_W4 bk0_w3 bk1_w3 bk2_w3 bkF_w3 bkL_w3 rs0_w3 rs1_w3 rs2_w3 rsF_w3 rsL_w3 oL_w3 acc_w3
      have zG := own_zeroG KAd W4 W4.heap.size 28 (Nat.le_refl _)
      rw [as_W4.out] at zG
      have ab5 := alloc_below W4 (.cells #[] 28)
      have as5 : Hid ((W4.alloc (.cells #[] 28)).heap.size = W4.heap.size + 1) := hidP (by simp)
      generalize W4.alloc (.cells #[] 28) = W5 at *
      have bk0_W5 := (ab5.cell bkL_W4).trans bk0_W4
      have bk1_W5 := (ab5.cell bkL_W4).trans bk1_W4
      have bk2_W5 := (ab5.cell bkL_W4).trans bk2_W4
      have bkF_W5 : ∀ o, W5.frozen? ⟨w.heap.size, o, none⟩ = false := fun o => (ab5.frozen bkL_W4).trans (bkF_W4 o)
      have bkL_W5 : w.heap.size < W5.heap.size := Nat.lt_of_lt_of_le bkL_W4 ab5.size
      have rs0_W5 := (ab5.cell rsL_W4).trans rs0_W4
      have rs1_W5 := (ab5.cell rsL_W4).trans rs1_W4
      have rs2_W5 := (ab5.cell rsL_W4).trans rs2_W4
      have rsF_W5 : ∀ o, W5.frozen? ⟨w.heap.size + 1, o, none⟩ = false := fun o => (ab5.frozen rsL_W4).trans (rsF_W4 o)
      have rsL_W5 : w.heap.size + 1 < W5.heap.size := Nat.lt_of_lt_of_le rsL_W4 ab5.size
      have ou0_W5 := (ab5.cell ouL_W4).trans ou0_W4
      have ou1_W5 := (ab5.cell ouL_W4).trans ou1_W4
      have ou2_W5 := (ab5.cell ouL_W4).trans ou2_W4
      have ouF_W5 : ∀ o, W5.frozen? ⟨w3.heap.size, o, none⟩ = false := fun o => (ab5.frozen ouL_W4).trans (ouF_W4 o)
      have ouL_W5 : w3.heap.size < W5.heap.size := Nat.lt_of_lt_of_le ouL_W4 ab5.size
      have oL_W5 := hidP (OwnG.later oL_W4.out ab5)
      have acc_W5 := hidP (acc_W4.out.trans (ab5.mono acc_W4.out.size))
      have sz_W5 : Hid (W4.heap.size ≤ W5.heap.size) := hidP ab5.size
      clear ab5 bk0_W4 bk1_W4 bk2_W4 bkF_W4 bkL_W4 rs0_W4 rs1_W4 rs2_W4 rsF_W4 rsL_W4 ou0_W4 ou1_W4 ou2_W4 ouF_W4 ouL_W4 oL_W4 acc_W4
      have oG_W5 := hidP (zG)
      clear zG
      refine (HSp.out _ acc_W5.out).mono ?_
      rintro e w6 ⟨rfl, hb6⟩
      have bk0_w6 := (hb6.cell bkL_W5).trans bk0_W5
      have bk1_w6 := (hb6.cell bkL_W5).trans bk1_W5
      have bk2_w6 := (hb6.cell bkL_W5).trans bk2_W5
      have bkF_w6 : ∀ o, w6.frozen? ⟨w.heap.size, o, none⟩ = false := fun o => (hb6.frozen bkL_W5).trans (bkF_W5 o)
      have bkL_w6 : w.heap.size < w6.heap.size := Nat.lt_of_lt_of_le bkL_W5 hb6.size
      have rs0_w6 := (hb6.cell rsL_W5).trans rs0_W5
      have rs1_w6 := (hb6.cell rsL_W5).trans rs1_W5
      have rs2_w6 := (hb6.cell rsL_W5).trans rs2_W5
      have rsF_w6 : ∀ o, w6.frozen? ⟨w.heap.size + 1, o, none⟩ = false := fun o => (hb6.frozen rsL_W5).trans (rsF_W5 o)
      have rsL_w6 : w.heap.size + 1 < w6.heap.size := Nat.lt_of_lt_of_le rsL_W5 hb6.size
      have ou0_w6 := (hb6.cell ouL_W5).trans ou0_W5
      have ou1_w6 := (hb6.cell ouL_W5).trans ou1_W5
      have ou2_w6 := (hb6.cell ouL_W5).trans ou2_W5
      have ouF_w6 : ∀ o, w6.frozen? ⟨w3.heap.size, o, none⟩ = false := fun o => (hb6.frozen ouL_W5).trans (ouF_W5 o)
      have ouL_w6 : w3.heap.size < w6.heap.size := Nat.lt_of_lt_of_le ouL_W5 hb6.size
      have oL_w6 := hidP (OwnG.later oL_W5.out hb6)
      have oG_w6 := hidP (OwnG.later oG_W5.out hb6)
      have acc_w6 := hidP (acc_W5.out.trans (hb6.mono acc_W5.out.size))
      have sz_w6 : Hid (W5.heap.size ≤ w6.heap.size) := hidP hb6.size
      clear hb6 bk0_W5 bk1_W5 bk2_W5 bkF_W5 bkL_W5 rs0_W5 rs1_W5 rs2_W5 rsF_W5 rsL_W5 ou0_W5 ou1_W5 ou2_W5 ouF_W5 ouL_W5 oL_W5 oG_W5 acc_W5
      go_wp2_with fail
      refine bodyPost_ret (v := .tuple #[.agg #[.slice a3 n c3, .int .i64 T, .int .i64 N], .slice (some ⟨w3.heap.size + 1, 0, none⟩) 0 0]) (by simp [results, Tryz.results57, go_sem, rs0_w6, rs1_w6, rs2_w6]) rfl ⟨_, _, _, _, rfl, ?_, ?_, ?_, ?_⟩
      · refine OwnG.mono (B := W2.heap.size) ?_ (by have := as_W1.out; have := sz_W1.out; have := as_W2.out; have := sz_W2.out; have := sz_w3.out; have := as_W4.out; have := sz_W4.out; have := as5.out; have := sz_W5.out; have := sz_w6.out; omega)
        iterate 3 (with_reducible refine OwnG.grown ?_ (grown_cellG _ _ _ _) ?_; rotate_left; (focus (exact OwnG.ne_of oL_w6.out (by have := as_W1.out; have := sz_W1.out; have := as_W2.out; have := sz_W2.out; have := sz_w3.out; have := as_W4.out; have := sz_W4.out; have := as5.out; have := sz_W5.out; have := sz_w6.out; omega))))
        with_reducible exact oL_w6.out
      · refine OwnG.mono (B := w3.heap.size + 1) ?_ (by have := as_W1.out; have := sz_W1.out; have := as_W2.out; have := sz_W2.out; have := sz_w3.out; have := as_W4.out; have := sz_W4.out; have := as5.out; have := sz_W5.out; have := sz_w6.out; omega)
        iterate 3 (with_reducible refine OwnG.grown ?_ (grown_cellG _ _ _ _) ?_; rotate_left; (focus (exact OwnG.ne_of oG_w6.out (by have := as_W1.out; have := sz_W1.out; have := as_W2.out; have := sz_W2.out; have := sz_w3.out; have := as_W4.out; have := sz_W4.out; have := as5.out; have := sz_W5.out; have := sz_w6.out; omega))))
        with_reducible exact oG_w6.out
      · intro k h1 h2
        have h3 := (lo3.out k h1).2
        rw [ob_some, Option.some.injEq] at h2
        omega
      · repeat (with_reducible refine Below.setCell ?_ ?_ _; rotate_left; (focus (first | (simp; done) | (simp; omega))))
        exact acc_w6.out

set_option maxRecDepth 10000 in
set_option maxHeartbeats 4000000 in
theorem sAdv_yes (a : Option Addr) (n c : Nat) (T N : Int) (ls : List Ls) (w : World) (hn : n = ls.length) (hB : RowG KLs w a ls) (hc : a = none → c = 0) (hl : n ≤ 1048576) (hst : ∀ q ∈ ls, q.t.size ≤ 9223372036854775807) (now : Int) (hr : (bkB ls T N && (decide (N < now) && decide (now ≤ 1000000000))) = true) :
    Calls Tryz.prog 57 #[.agg #[.slice a n c, .int .i64 T, .int .i64 N], .int .i64 now] w fun e w' => ∃ a' c' b' d', e = .returned (.tuple #[.agg #[.slice a' (stayL now ls).length c', .int .i64 T, .int .i64 now], .slice b' (goneL now ls).length d']) ∧ OwnG KLs 35 w' w.heap.size (.slice a' (stayL now ls).length c') (stayL now ls) ∧ OwnG KAd 28 w' w.heap.size (.slice b' (goneL now ls).length d') (goneL now ls) ∧ (∀ k, (Value.slice a' (stayL now ls).length c').ownBlock = some k → (Value.slice b' (goneL now ls).length d').ownBlock ≠ some k) ∧ Below w.heap.size w w' := by
  have HOw := hidP (fun W h => l6Copy_any a n c T N ls W hn (hB.later h) hc hl)
  have HSp := hidP (fun W h => sBookOk_any a n c T N ls W hn (hB.later h) hl hst)
  have HN := hidP hn
  have HR := hidP hB
  clear hB hn hst hc
  rw [Bool.and_eq_true, Bool.and_eq_true] at hr
  obtain ⟨hb, hN0, hN1⟩ := hr
  have h1 : decide (now ≤ N) = false := by have := of_decide_eq_true hN0; exact decide_eq_false (by omega)
  have h2 : decide ((1000000000 : Int) < now) = false := by have := of_decide_eq_true hN1; exact decide_eq_false (by omega)
  have hn80 : n ≤ 80 := by
    unfold bkB at hb
    simp only [Bool.and_eq_true, decide_eq_true_eq] at hb
    have := hb.1.1; have := HN.out; omega
  rw [hb] at HSp
  clear hN0 hN1 hb
  go_enter Tryz.func57, Tryz.ntmps57
  go_wp2_with fail
  obtain ⟨bk0_W1, bk1_W1, bk2_W1⟩ := box3B w 26 (.slice a n c) (.int .i64 T) (.int .i64 N)
  have bkF_W1 : ∀ o, (w.alloc (.cells #[.slice a n c, .int .i64 T, .int .i64 N] 26)).frozen? ⟨w.heap.size, o, none⟩ = false := fun o => by simp [go_sem]
  have bkL_W1 : w.heap.size < (w.alloc (.cells #[.slice a n c, .int .i64 T, .int .i64 N] 26)).heap.size := by simp
  have ab_W1 := alloc_below w (.cells #[.slice a n c, .int .i64 T, .int .i64 N] 26)
  have as_W1 : Hid ((w.alloc (.cells #[.slice a n c, .int .i64 T, .int .i64 N] 26)).heap.size = w.heap.size + 1) := hidP (by simp)
  generalize w.alloc (.cells #[.slice a n c, .int .i64 T, .int .i64 N] 26) = W1 at *
  have acc_W1 := hidP (ab_W1)
  have sz_W1 : Hid (w.heap.size ≤ W1.heap.size) := hidP ab_W1.size
  clear ab_W1 
  obtain ⟨rs0_W2, rs1_W2, rs2_W2⟩ := box3B W1 26 (.slice none 0 0) (.int .i64 0) (.int .i64 0)
  have rsF_W2 : ∀ o, (W1.alloc (.cells #[.slice none 0 0, .int .i64 0, .int .i64 0] 26)).frozen? ⟨W1.heap.size, o, none⟩ = false := fun o => by simp [go_sem]
  have rsL_W2 : W1.heap.size < (W1.alloc (.cells #[.slice none 0 0, .int .i64 0, .int .i64 0] 26)).heap.size := by simp
  have ab_W2 := alloc_below W1 (.cells #[.slice none 0 0, .int .i64 0, .int .i64 0] 26)
  have as_W2 : Hid ((W1.alloc (.cells #[.slice none 0 0, .int .i64 0, .int .i64 0] 26)).heap.size = W1.heap.size + 1) := hidP (by simp)
  generalize W1.alloc (.cells #[.slice none 0 0, .int .i64 0, .int .i64 0] 26) = W2 at *
  have bk0_W2 := (ab_W2.cell bkL_W1).trans bk0_W1
  have bk1_W2 := (ab_W2.cell bkL_W1).trans bk1_W1
  have bk2_W2 := (ab_W2.cell bkL_W1).trans bk2_W1
  have bkF_W2 : ∀ o, W2.frozen? ⟨w.heap.size, o, none⟩ = false := fun o => (ab_W2.frozen bkL_W1).trans (bkF_W1 o)
  have bkL_W2 : w.heap.size < W2.heap.size := Nat.lt_of_lt_of_le bkL_W1 ab_W2.size
  have acc_W2 := hidP (acc_W1.out.trans (ab_W2.mono acc_W1.out.size))
  have sz_W2 : Hid (W1.heap.size ≤ W2.heap.size) := hidP ab_W2.size
  clear ab_W2 bk0_W1 bk1_W1 bk2_W1 bkF_W1 bkL_W1 acc_W1
  have eW1 := as_W1.out
  rw [eW1] at rs0_W2 rs1_W2 rs2_W2 rsL_W2
  have rsF_W2' : ∀ o, W2.frozen? ⟨w.heap.size + 1, o, none⟩ = false := fun o => by have := rsF_W2 o; rw [eW1] at this; exact this
  clear rsF_W2 eW1
  have rsF_W2 := rsF_W2'
  clear rsF_W2'
  refine (HOw.out _ acc_W2.out).mono ?_
  rintro e w3 ⟨a3, c3, rfl, og3, hb3⟩
  have lo3 := hidP (fun k hk => OwnG.lt og3 k hk)
  have og3' := hidP og3
  clear og3
  have bk0_w3 := (hb3.cell bkL_W2).trans bk0_W2
  have bk1_w3 := (hb3.cell bkL_W2).trans bk1_W2
  have bk2_w3 := (hb3.cell bkL_W2).trans bk2_W2
  have bkF_w3 : ∀ o, w3.frozen? ⟨w.heap.size, o, none⟩ = false := fun o => (hb3.frozen bkL_W2).trans (bkF_W2 o)
  have bkL_w3 : w.heap.size < w3.heap.size := Nat.lt_of_lt_of_le bkL_W2 hb3.size
  have rs0_w3 := (hb3.cell rsL_W2).trans rs0_W2
  have rs1_w3 := (hb3.cell rsL_W2).trans rs1_W2
  have rs2_w3 := (hb3.cell rsL_W2).trans rs2_W2
  have rsF_w3 : ∀ o, w3.frozen? ⟨w.heap.size + 1, o, none⟩ = false := fun o => (hb3.frozen rsL_W2).trans (rsF_W2 o)
  have rsL_w3 : w.heap.size + 1 < w3.heap.size := Nat.lt_of_lt_of_le rsL_W2 hb3.size
  have acc_w3 := hidP (acc_W2.out.trans (hb3.mono acc_W2.out.size))
  have sz_w3 : Hid (W2.heap.size ≤ w3.heap.size) := hidP hb3.size
  clear hb3 bk0_W2 bk1_W2 bk2_W2 bkF_W2 bkL_W2 rs0_W2 rs1_W2 rs2_W2 rsF_W2 rsL_W2 acc_W2
  go_wp2_with fail
  obtain ⟨ou0_W4, ou1_W4, ou2_W4⟩ := box3B w3 26 (.slice a3 n c3) (.int .i64 T) (.int .i64 N)
  have ouF_W4 : ∀ o, (w3.alloc (.cells #[.slice a3 n c3, .int .i64 T, .int .i64 N] 26)).frozen? ⟨w3.heap.size, o, none⟩ = false := fun o => by simp [go_sem]
  have ouL_W4 : w3.heap.size < (w3.alloc (.cells #[.slice a3 n c3, .int .i64 T, .int .i64 N] 26)).heap.size := by simp
  have ab_W4 := alloc_below w3 (.cells #[.slice a3 n c3, .int .i64 T, .int .i64 N] 26)
  have as_W4 : Hid ((w3.alloc (.cells #[.slice a3 n c3, .int .i64 T, .int .i64 N] 26)).heap.size = w3.heap.size + 1) := hidP (by simp)
  generalize w3.alloc (.cells #[.slice a3 n c3, .int .i64 T, .int .i64 N] 26) = W4 at *
  have bk0_W4 := (ab_W4.cell bkL_w3).trans bk0_w3
  have bk1_W4 := (ab_W4.cell bkL_w3).trans bk1_w3
  have bk2_W4 := (ab_W4.cell bkL_w3).trans bk2_w3
  have bkF_W4 : ∀ o, W4.frozen? ⟨w.heap.size, o, none⟩ = false := fun o => (ab_W4.frozen bkL_w3).trans (bkF_w3 o)
  have bkL_W4 : w.heap.size < W4.heap.size := Nat.lt_of_lt_of_le bkL_w3 ab_W4.size
  have rs0_W4 := (ab_W4.cell rsL_w3).trans rs0_w3
  have rs1_W4 := (ab_W4.cell rsL_w3).trans rs1_w3
  have rs2_W4 := (ab_W4.cell rsL_w3).trans rs2_w3
  have rsF_W4 : ∀ o, W4.frozen? ⟨w.heap.size + 1, o, none⟩ = false := fun o => (ab_W4.frozen rsL_w3).trans (rsF_w3 o)
  have rsL_W4 : w.heap.size + 1 < W4.heap.size := Nat.lt_of_lt_of_le rsL_w3 ab_W4.size
  have acc_W4 := hidP (acc_w3.out.trans (ab_W4.mono acc_w3.out.size))
  have sz_W4 : Hid (w3.heap.size ≤ W4.heap.size) := hidP ab_W4.size
  clear ab_W4 bk0_w3 bk1_w3 bk2_w3 bkF_w3 bkL_w3 rs0_w3 rs1_w3 rs2_w3 rsF_w3 rsL_w3 acc_w3
  have zG := own_zeroG KAd W4 W4.heap.size 28 (Nat.le_refl _)
  rw [as_W4.out] at zG
  have ab5 := alloc_below W4 (.cells #[] 28)
  have as5 : Hid ((W4.alloc (.cells #[] 28)).heap.size = W4.heap.size + 1) := hidP (by simp)
  generalize W4.alloc (.cells #[] 28) = W5 at *
  have bk0_W5 := (ab5.cell bkL_W4).trans bk0_W4
  have bk1_W5 := (ab5.cell bkL_W4).trans bk1_W4
  have bk2_W5 := (ab5.cell bkL_W4).trans bk2_W4
  have bkF_W5 : ∀ o, W5.frozen? ⟨w.heap.size, o, none⟩ = false := fun o => (ab5.frozen bkL_W4).trans (bkF_W4 o)
  have bkL_W5 : w.heap.size < W5.heap.size := Nat.lt_of_lt_of_le bkL_W4 ab5.size
  have rs0_W5 := (ab5.cell rsL_W4).trans rs0_W4
  have rs1_W5 := (ab5.cell rsL_W4).trans rs1_W4
  have rs2_W5 := (ab5.cell rsL_W4).trans rs2_W4
  have rsF_W5 : ∀ o, W5.frozen? ⟨w.heap.size + 1, o, none⟩ = false := fun o => (ab5.frozen rsL_W4).trans (rsF_W4 o)
  have rsL_W5 : w.heap.size + 1 < W5.heap.size := Nat.lt_of_lt_of_le rsL_W4 ab5.size
  have ou0_W5 := (ab5.cell ouL_W4).trans ou0_W4
  have ou1_W5 := (ab5.cell ouL_W4).trans ou1_W4
  have ou2_W5 := (ab5.cell ouL_W4).trans ou2_W4
  have ouF_W5 : ∀ o, W5.frozen? ⟨w3.heap.size, o, none⟩ = false := fun o => (ab5.frozen ouL_W4).trans (ouF_W4 o)
  have ouL_W5 : w3.heap.size < W5.heap.size := Nat.lt_of_lt_of_le ouL_W4 ab5.size
  have acc_W5 := hidP (acc_W4.out.trans (ab5.mono acc_W4.out.size))
  have sz_W5 : Hid (W4.heap.size ≤ W5.heap.size) := hidP ab5.size
  clear ab5 bk0_W4 bk1_W4 bk2_W4 bkF_W4 bkL_W4 rs0_W4 rs1_W4 rs2_W4 rsF_W4 rsL_W4 ou0_W4 ou1_W4 ou2_W4 ouF_W4 ouL_W4 acc_W4
  have oG_W5 := hidP (zG)
  clear zG
  refine (HSp.out _ acc_W5.out).mono ?_
  rintro e w6 ⟨rfl, hb6⟩
  have bk0_w6 := (hb6.cell bkL_W5).trans bk0_W5
  have bk1_w6 := (hb6.cell bkL_W5).trans bk1_W5
  have bk2_w6 := (hb6.cell bkL_W5).trans bk2_W5
  have bkF_w6 : ∀ o, w6.frozen? ⟨w.heap.size, o, none⟩ = false := fun o => (hb6.frozen bkL_W5).trans (bkF_W5 o)
  have bkL_w6 : w.heap.size < w6.heap.size := Nat.lt_of_lt_of_le bkL_W5 hb6.size
  have rs0_w6 := (hb6.cell rsL_W5).trans rs0_W5
  have rs1_w6 := (hb6.cell rsL_W5).trans rs1_W5
  have rs2_w6 := (hb6.cell rsL_W5).trans rs2_W5
  have rsF_w6 : ∀ o, w6.frozen? ⟨w.heap.size + 1, o, none⟩ = false := fun o => (hb6.frozen rsL_W5).trans (rsF_W5 o)
  have rsL_w6 : w.heap.size + 1 < w6.heap.size := Nat.lt_of_lt_of_le rsL_W5 hb6.size
  have ou0_w6 := (hb6.cell ouL_W5).trans ou0_W5
  have ou1_w6 := (hb6.cell ouL_W5).trans ou1_W5
  have ou2_w6 := (hb6.cell ouL_W5).trans ou2_W5
  have ouF_w6 : ∀ o, w6.frozen? ⟨w3.heap.size, o, none⟩ = false := fun o => (hb6.frozen ouL_W5).trans (ouF_W5 o)
  have ouL_w6 : w3.heap.size < w6.heap.size := Nat.lt_of_lt_of_le ouL_W5 hb6.size
  have oG_w6 := hidP (OwnG.later oG_W5.out hb6)
  have acc_w6 := hidP (acc_W5.out.trans (hb6.mono acc_W5.out.size))
  have sz_w6 : Hid (W5.heap.size ≤ w6.heap.size) := hidP hb6.size
  clear hb6 bk0_W5 bk1_W5 bk2_W5 bkF_W5 bkL_W5 rs0_W5 rs1_W5 rs2_W5 rsF_W5 rsL_W5 ou0_W5 ou1_W5 ou2_W5 ouF_W5 ouL_W5 oG_W5 acc_W5
  go_wp2_with fail
  have ou0_W7 : (w6.setCell ⟨w3.heap.size, 2, none⟩ (.int .i64 now)).cell? ⟨w3.heap.size, 0, none⟩ = some (.slice a3 n c3) := by simp [go_sem, ou0_w6]
  have ou1_W7 : (w6.setCell ⟨w3.heap.size, 2, none⟩ (.int .i64 now)).cell? ⟨w3.heap.size, 1, none⟩ = some (.int .i64 T) := by simp [go_sem, ou1_w6]
  have ou2_W7 : (w6.setCell ⟨w3.heap.size, 2, none⟩ (.int .i64 now)).cell? ⟨w3.heap.size, 2, none⟩ = some (.int .i64 now) := by simp [go_sem, ou2_w6]
  have bk0_W7 : (w6.setCell ⟨w3.heap.size, 2, none⟩ (.int .i64 now)).cell? ⟨w.heap.size, 0, none⟩ = some (.slice a n c) := cell_set1 (bk0_w6) (by have := as_W1.out; have := sz_W1.out; have := as_W2.out; have := sz_W2.out; have := sz_w3.out; have := as_W4.out; have := sz_W4.out; have := as5.out; have := sz_W5.out; have := sz_w6.out; omega)
  have bk1_W7 : (w6.setCell ⟨w3.heap.size, 2, none⟩ (.int .i64 now)).cell? ⟨w.heap.size, 1, none⟩ = some (.int .i64 T) := cell_set1 (bk1_w6) (by have := as_W1.out; have := sz_W1.out; have := as_W2.out; have := sz_W2.out; have := sz_w3.out; have := as_W4.out; have := sz_W4.out; have := as5.out; have := sz_W5.out; have := sz_w6.out; omega)
  have bk2_W7 : (w6.setCell ⟨w3.heap.size, 2, none⟩ (.int .i64 now)).cell? ⟨w.heap.size, 2, none⟩ = some (.int .i64 N) := cell_set1 (bk2_w6) (by have := as_W1.out; have := sz_W1.out; have := as_W2.out; have := sz_W2.out; have := sz_w3.out; have := as_W4.out; have := sz_W4.out; have := as5.out; have := sz_W5.out; have := sz_w6.out; omega)
  have bkF_W7 : ∀ o, (w6.setCell ⟨w3.heap.size, 2, none⟩ (.int .i64 now)).frozen? ⟨w.heap.size, o, none⟩ = false := fun o => frz_set1 ((bkF_w6 o))
  have bkL_W7 : w.heap.size < (w6.setCell ⟨w3.heap.size, 2, none⟩ (.int .i64 now)).heap.size := by simpa using bkL_w6
  have rs0_W7 : (w6.setCell ⟨w3.heap.size, 2, none⟩ (.int .i64 now)).cell? ⟨w.heap.size + 1, 0, none⟩ = some (.slice none 0 0) := cell_set1 (rs0_w6) (by have := as_W1.out; have := sz_W1.out; have := as_W2.out; have := sz_W2.out; have := sz_w3.out; have := as_W4.out; have := sz_W4.out; have := as5.out; have := sz_W5.out; have := sz_w6.out; omega)
  have rs1_W7 : (w6.setCell ⟨w3.heap.size, 2, none⟩ (.int .i64 now)).cell? ⟨w.heap.size + 1, 1, none⟩ = some (.int .i64 0) := cell_set1 (rs1_w6) (by have := as_W1.out; have := sz_W1.out; have := as_W2.out; have := sz_W2.out; have := sz_w3.out; have := as_W4.out; have := sz_W4.out; have := as5.out; have := sz_W5.out; have := sz_w6.out; omega)
  have rs2_W7 : (w6.setCell ⟨w3.heap.size, 2, none⟩ (.int .i64 now)).cell? ⟨w.heap.size + 1, 2, none⟩ = some (.int .i64 0) := cell_set1 (rs2_w6) (by have := as_W1.out; have := sz_W1.out; have := as_W2.out; have := sz_W2.out; have := sz_w3.out; have := as_W4.out; have := sz_W4.out; have := as5.out; have := sz_W5.out; have := sz_w6.out; omega)
  have rsF_W7 : ∀ o, (w6.setCell ⟨w3.heap.size, 2, none⟩ (.int .i64 now)).frozen? ⟨w.heap.size + 1, o, none⟩ = false := fun o => frz_set1 ((rsF_w6 o))
  have rsL_W7 : w.heap.size + 1 < (w6.setCell ⟨w3.heap.size, 2, none⟩ (.int .i64 now)).heap.size := by simpa using rsL_w6
  have ouF_W7 : ∀ o, (w6.setCell ⟨w3.heap.size, 2, none⟩ (.int .i64 now)).frozen? ⟨w3.heap.size, o, none⟩ = false := fun o => frz_set1 ((ouF_w6 o))
  have ouL_W7 : w3.heap.size < (w6.setCell ⟨w3.heap.size, 2, none⟩ (.int .i64 now)).heap.size := by simpa using ouL_w6
  have oG_W7 : Hid (OwnG KAd 28 (w6.setCell ⟨w3.heap.size, 2, none⟩ (.int .i64 now)) (w3.heap.size + 1) (.slice (some ⟨w3.heap.size + 1, 0, none⟩) 0 0) ([])) := hidP (OwnG.grown (oG_w6.out) (grown_cellG _ _ _ _) (OwnG.ne_of oG_w6.out (by have := as_W1.out; have := sz_W1.out; have := as_W2.out; have := sz_W2.out; have := sz_w3.out; have := as_W4.out; have := sz_W4.out; have := as5.out; have := sz_W5.out; have := sz_w6.out; omega)))
  have acc_W7 : Hid (Below w.heap.size w (w6.setCell ⟨w3.heap.size, 2, none⟩ (.int .i64 now))) := hidP (Below.setCell (acc_w6.out) (by have := as_W1.out; have := sz_W1.out; have := as_W2.out; have := sz_W2.out; have := sz_w3.out; have := as_W4.out; have := sz_W4.out; have := as5.out; have := sz_W5.out; have := sz_w6.out; try dsimp only; omega) _)
  have sz_W7 : Hid ((w6.setCell ⟨w3.heap.size, 2, none⟩ (.int .i64 now)).heap.size = w6.heap.size) := hidP (by simp)
  generalize w6.setCell ⟨w3.heap.size, 2, none⟩ (.int .i64 now) = W7 at *
  clear ou0_w6 ou1_w6 ou2_w6 bk0_w6 bk1_w6 bk2_w6 bkF_w6 bkL_w6 rs0_w6 rs1_w6 rs2_w6 rsF_w6 rsL_w6 ouF_w6 ouL_w6 oG_w6 acc_w6
  have ou0_W8 : (W7.setCell ⟨w3.heap.size, 0, none⟩ (.slice (some ⟨w6.heap.size, 0, none⟩) 0 0)).cell? ⟨w3.heap.size, 0, none⟩ = some (.slice (some ⟨w6.heap.size, 0, none⟩) 0 0) := by simp [go_sem, ou0_W7]
  have ou1_W8 : (W7.setCell ⟨w3.heap.size, 0, none⟩ (.slice (some ⟨w6.heap.size, 0, none⟩) 0 0)).cell? ⟨w3.heap.size, 1, none⟩ = some (.int .i64 T) := by simp [go_sem, ou1_W7]
  have ou2_W8 : (W7.setCell ⟨w3.heap.size, 0, none⟩ (.slice (some ⟨w6.heap.size, 0, none⟩) 0 0)).cell? ⟨w3.heap.size, 2, none⟩ = some (.int .i64 now) := by simp [go_sem, ou2_W7]
  have bk0_W8 : (W7.setCell ⟨w3.heap.size, 0, none⟩ (.slice (some ⟨w6.heap.size, 0, none⟩) 0 0)).cell? ⟨w.heap.size, 0, none⟩ = some (.slice a n c) := cell_set1 (bk0_W7) (by have := as_W1.out; have := sz_W1.out; have := as_W2.out; have := sz_W2.out; have := sz_w3.out; have := as_W4.out; have := sz_W4.out; have := as5.out; have := sz_W5.out; have := sz_w6.out; have := sz_W7.out; omega)
  have bk1_W8 : (W7.setCell ⟨w3.heap.size, 0, none⟩ (.slice (some ⟨w6.heap.size, 0, none⟩) 0 0)).cell? ⟨w.heap.size, 1, none⟩ = some (.int .i64 T) := cell_set1 (bk1_W7) (by have := as_W1.out; have := sz_W1.out; have := as_W2.out; have := sz_W2.out; have := sz_w3.out; have := as_W4.out; have := sz_W4.out; have := as5.out; have := sz_W5.out; have := sz_w6.out; have := sz_W7.out; omega)
  have bk2_W8 : (W7.setCell ⟨w3.heap.size, 0, none⟩ (.slice (some ⟨w6.heap.size, 0, none⟩) 0 0)).cell? ⟨w.heap.size, 2, none⟩ = some (.int .i64 N) := cell_set1 (bk2_W7) (by have := as_W1.out; have := sz_W1.out; have := as_W2.out; have := sz_W2.out; have := sz_w3.out; have := as_W4.out; have := sz_W4.out; have := as5.out; have := sz_W5.out; have := sz_w6.out; have := sz_W7.out; omega)
  have bkF_W8 : ∀ o, (W7.setCell ⟨w3.heap.size, 0, none⟩ (.slice (some ⟨w6.heap.size, 0, none⟩) 0 0)).frozen? ⟨w.heap.size, o, none⟩ = false := fun o => frz_set1 ((bkF_W7 o))
  have bkL_W8 : w.heap.size < (W7.setCell ⟨w3.heap.size, 0, none⟩ (.slice (some ⟨w6.heap.size, 0, none⟩) 0 0)).heap.size := by simpa using bkL_W7
  have rs0_W8 : (W7.setCell ⟨w3.heap.size, 0, none⟩ (.slice (some ⟨w6.heap.size, 0, none⟩) 0 0)).cell? ⟨w.heap.size + 1, 0, none⟩ = some (.slice none 0 0) := cell_set1 (rs0_W7) (by have := as_W1.out; have := sz_W1.out; have := as_W2.out; have := sz_W2.out; have := sz_w3.out; have := as_W4.out; have := sz_W4.out; have := as5.out; have := sz_W5.out; have := sz_w6.out; have := sz_W7.out; omega)
  have rs1_W8 : (W7.setCell ⟨w3.heap.size, 0, none⟩ (.slice (some ⟨w6.heap.size, 0, none⟩) 0 0)).cell? ⟨w.heap.size + 1, 1, none⟩ = some (.int .i64 0) := cell_set1 (rs1_W7) (by have := as_W1.out; have := sz_W1.out; have := as_W2.out; have := sz_W2.out; have := sz_w3.out; have := as_W4.out; have := sz_W4.out; have := as5.out; have := sz_W5.out; have := sz_w6.out; have := sz_W7.out; omega)
  have rs2_W8 : (W7.setCell ⟨w3.heap.size, 0, none⟩ (.slice (some ⟨w6.heap.size, 0, none⟩) 0 0)).cell? ⟨w.heap.size + 1, 2, none⟩ = some (.int .i64 0) := cell_set1 (rs2_W7) (by have := as_W1.out; have := sz_W1.out; have := as_W2.out; have := sz_W2.out; have := sz_w3.out; have := as_W4.out; have := sz_W4.out; have := as5.out; have := sz_W5.out; have := sz_w6.out; have := sz_W7.out; omega)
  have rsF_W8 : ∀ o, (W7.setCell ⟨w3.heap.size, 0, none⟩ (.slice (some ⟨w6.heap.size, 0, none⟩) 0 0)).frozen? ⟨w.heap.size + 1, o, none⟩ = false := fun o => frz_set1 ((rsF_W7 o))
  have rsL_W8 : w.heap.size + 1 < (W7.setCell ⟨w3.heap.size, 0, none⟩ (.slice (some ⟨w6.heap.size, 0, none⟩) 0 0)).heap.size := by simpa using rsL_W7
  have ouF_W8 : ∀ o, (W7.setCell ⟨w3.heap.size, 0, none⟩ (.slice (some ⟨w6.heap.size, 0, none⟩) 0 0)).frozen? ⟨w3.heap.size, o, none⟩ = false := fun o => frz_set1 ((ouF_W7 o))
  have ouL_W8 : w3.heap.size < (W7.setCell ⟨w3.heap.size, 0, none⟩ (.slice (some ⟨w6.heap.size, 0, none⟩) 0 0)).heap.size := by simpa using ouL_W7
  have oG_W8 : Hid (OwnG KAd 28 (W7.setCell ⟨w3.heap.size, 0, none⟩ (.slice (some ⟨w6.heap.size, 0, none⟩) 0 0)) (w3.heap.size + 1) (.slice (some ⟨w3.heap.size + 1, 0, none⟩) 0 0) ([])) := hidP (OwnG.grown (oG_W7.out) (grown_cellG _ _ _ _) (OwnG.ne_of oG_W7.out (by have := as_W1.out; have := sz_W1.out; have := as_W2.out; have := sz_W2.out; have := sz_w3.out; have := as_W4.out; have := sz_W4.out; have := as5.out; have := sz_W5.out; have := sz_w6.out; have := sz_W7.out; omega)))
  have acc_W8 : Hid (Below w.heap.size w (W7.setCell ⟨w3.heap.size, 0, none⟩ (.slice (some ⟨w6.heap.size, 0, none⟩) 0 0))) := hidP (Below.setCell (acc_W7.out) (by have := as_W1.out; have := sz_W1.out; have := as_W2.out; have := sz_W2.out; have := sz_w3.out; have := as_W4.out; have := sz_W4.out; have := as5.out; have := sz_W5.out; have := sz_w6.out; have := sz_W7.out; try dsimp only; omega) _)
  have sz_W8 : Hid ((W7.setCell ⟨w3.heap.size, 0, none⟩ (.slice (some ⟨w6.heap.size, 0, none⟩) 0 0)).heap.size = W7.heap.size) := hidP (by simp)
  generalize W7.setCell ⟨w3.heap.size, 0, none⟩ (.slice (some ⟨w6.heap.size, 0, none⟩) 0 0) = W8 at *
  clear ou0_W7 ou1_W7 ou2_W7 bk0_W7 bk1_W7 bk2_W7 bkF_W7 bkL_W7 rs0_W7 rs1_W7 rs2_W7 rsF_W7 rsL_W7 ouF_W7 ouL_W7 oG_W7 acc_W7
  have zS := own_zeroG KLs W8 W8.heap.size 35 (Nat.le_refl _)
  rw [sz_W8.out, sz_W7.out] at zS
  have ab9 := alloc_below W8 (.cells #[] 35)
  have as9 : Hid ((W8.alloc (.cells #[] 35)).heap.size = W8.heap.size + 1) := hidP (by simp)
  generalize W8.alloc (.cells #[] 35) = W9 at *
  have bk0_W9 := (ab9.cell bkL_W8).trans bk0_W8
  have bk1_W9 := (ab9.cell bkL_W8).trans bk1_W8
  have bk2_W9 := (ab9.cell bkL_W8).trans bk2_W8
  have bkF_W9 : ∀ o, W9.frozen? ⟨w.heap.size, o, none⟩ = false := fun o => (ab9.frozen bkL_W8).trans (bkF_W8 o)
  have bkL_W9 : w.heap.size < W9.heap.size := Nat.lt_of_lt_of_le bkL_W8 ab9.size
  have rs0_W9 := (ab9.cell rsL_W8).trans rs0_W8
  have rs1_W9 := (ab9.cell rsL_W8).trans rs1_W8
  have rs2_W9 := (ab9.cell rsL_W8).trans rs2_W8
  have rsF_W9 : ∀ o, W9.frozen? ⟨w.heap.size + 1, o, none⟩ = false := fun o => (ab9.frozen rsL_W8).trans (rsF_W8 o)
  have rsL_W9 : w.heap.size + 1 < W9.heap.size := Nat.lt_of_lt_of_le rsL_W8 ab9.size
  have ou0_W9 := (ab9.cell ouL_W8).trans ou0_W8
  have ou1_W9 := (ab9.cell ouL_W8).trans ou1_W8
  have ou2_W9 := (ab9.cell ouL_W8).trans ou2_W8
  have ouF_W9 : ∀ o, W9.frozen? ⟨w3.heap.size, o, none⟩ = false := fun o => (ab9.frozen ouL_W8).trans (ouF_W8 o)
  have ouL_W9 : w3.heap.size < W9.heap.size := Nat.lt_of_lt_of_le ouL_W8 ab9.size
  have oG_W9 := hidP (OwnG.later oG_W8.out ab9)
  have acc_W9 := hidP (acc_W8.out.trans (ab9.mono acc_W8.out.size))
  have sz_W9 : Hid (W8.heap.size ≤ W9.heap.size) := hidP ab9.size
  clear ab9 bk0_W8 bk1_W8 bk2_W8 bkF_W8 bkL_W8 rs0_W8 rs1_W8 rs2_W8 rsF_W8 rsL_W8 ou0_W8 ou1_W8 ou2_W8 ouF_W8 ouL_W8 oG_W8 acc_W8
  have oS_W9 := hidP (zS)
  clear zS
  have HQ : Hid (w3.heap.size + 1 ≤ w6.heap.size ∧ w3.heap.size ≤ W9.heap.size ∧ w3.heap.size + 1 < w6.heap.size ∧ w.heap.size + 1 < w3.heap.size ∧ w.heap.size < w3.heap.size) := hidP (by have := as_W1.out; have := sz_W1.out; have := as_W2.out; have := sz_W2.out; have := sz_w3.out; have := as_W4.out; have := sz_W4.out; have := as5.out; have := sz_W5.out; have := sz_w6.out; have := sz_W7.out; have := sz_W8.out; have := as9.out; have := sz_W9.out; omega)
  go_loopw [7, 8] (fun t7 t8 wr => ∃ (k p6 p7 : Nat) (a6 : Option Addr) (c6 : Nat) (a7 : Option Addr) (c7 : Nat), k ≤ n ∧ t8 = .int .i64 k ∧ t7 = .slice a6 p6 c6 ∧ p6 = (goneL now (ls.take k)).length ∧ p7 = (stayL now (ls.take k)).length ∧ OwnG KAd 28 wr (w3.heap.size + 1) (.slice a6 p6 c6) (goneL now (ls.take k)) ∧ OwnG KLs 35 wr (w3.heap.size + 1) (.slice a7 p7 c7) (stayL now (ls.take k)) ∧ (∀ j, (Value.slice a7 p7 c7).ownBlock = some j → (Value.slice a6 p6 c6).ownBlock ≠ some j) ∧ (wr.cell? ⟨w3.heap.size, 0, none⟩ = some (.slice a7 p7 c7) ∧ wr.cell? ⟨w3.heap.size, 1, none⟩ = some (.int .i64 T) ∧ wr.cell? ⟨w3.heap.size, 2, none⟩ = some (.int .i64 now) ∧ (∀ o, wr.frozen? ⟨w3.heap.size, o, none⟩ = false)) ∧ Below w3.heap.size W9 wr) (fun _ t8 _ => n - (intOf t8).toNat)
  case atStart => exact ⟨0, 0, 0, some ⟨w3.heap.size + 1, 0, none⟩, 0, some ⟨w6.heap.size, 0, none⟩, 0, Nat.zero_le _, rfl, rfl, rfl, rfl, oG_W9.out, oS_W9.out.mono HQ.out.1, (fun j hj he => by rw [ob_some, Option.some.injEq] at hj he; have := HQ.out; omega), ⟨ou0_W9, ou1_W9, ou2_W9, ouF_W9⟩, Below.refl _ _⟩
  case round =>
    obtain ⟨k, p6, p7, a6, c6, a7, c7, hk, rfl, rfl, hp6, hp7, ho6, ho7, hdj, ⟨v0, v1, v2, vF⟩, hbel⟩ := hrel
    have hsz8 := hbel.size
    have hGr : w3.heap.size ≤ wr.heap.size := Nat.le_trans HQ.out.2.1 hsz8
    have vL : w3.heap.size < wr.heap.size := World.block_lt_of_cell? wr _ v0
    have B0 := (hbel.cell HQ.out.2.2.2.2).trans bk0_W9
    have BL : w.heap.size < wr.heap.size := by have := HQ.out; omega
    have HBel := hidP hbel
    have HDj := hidP hdj
    have HP67 := hidP (And.intro hp6 hp7)
    have hp6k : p6 ≤ 80 := by rw [hp6]; have := (stay_len now (ls.take k)).2; rw [List.length_take] at this; omega
    have hp7k : p7 ≤ 80 := by rw [hp7]; have := (stay_len now (ls.take k)).1; rw [List.length_take] at this; omega
    have HO6 := hidP ho6
    have HO7 := hidP ho7
    have HV := hidP (And.intro v0 (And.intro v1 (And.intro v2 vF)))
    clear hp6 hp7 ho6 ho7 hdj
    by_cases hlt : k < n
    · have hwb := acc_W9.out.trans (hbel.mono (Nat.le_of_lt HQ.out.2.2.2.2))
      obtain ⟨p, o, q, rfl, hp0, hq, r0, r1, r2, r3, r4, r5⟩ := rowLs HR.out k (by rw [← HN.out]; exact hlt)
      have d0 := (hwb.cell hp0).trans r0
      have d1 := (hwb.cell hp0).trans r1
      have d2 := (hwb.cell hp0).trans r2
      have d3 := (hwb.cell hp0).trans r3
      have d4 := (hwb.cell hp0).trans r4
      have d5 := (hwb.cell hp0).trans r5
      have hpG : p < w3.heap.size := by have := HQ.out; omega
      have hpw : p < wr.heap.size := by omega
      have HPG := hidP hpG
      have HQk := hidP hq
      have k0 : (0 : Int) ≤ (k : Int) := by omega
      have k1 : (k : Int) < (n : Int) := by omega
      clear hq hbel hwb r0 r1 r2 r3 r4 r5
      cases hu : decide (now < q.u)
      · have hu2 : decide (q.u ≤ now) = true := by have := of_decide_eq_false hu; exact decide_eq_true (by omega)
        have HSt := hidP (stay_no HQk.out hu)
        have one := own_oneG KAd wr 0 28 q.a (Nat.zero_le _)
        have hB2 : Below wr.heap.size wr (wr.alloc (.cells #[.bool q.a.s, .int .i64 q.a.H.toInt, .int .i64 q.a.L.toInt] 28)) := alloc_below wr _
        have HZ := hidP (And.intro one (And.intro hB2 (And.intro (OwnG.later HO6.out hB2) (OwnG.later HO7.out hB2))))
        clear one hB2
        go_wp2_with (at_builtin; refine wpList_appG Tryz.tyAd _ rfl (.tmp 46) (.tmp 53) 43 rfl (w3.heap.size + 1) a6 p6 c6 1 (goneL now (ls.take k)) [q.a] (.slice (some ⟨wr.heap.size, 0, none⟩) 1 1) rfl HP67.out.1 rfl HZ.out.2.2.1 rfl (src_rowG Tryz.tyAd.1 1 1 (by show 0 < 3; omega) rfl HZ.out.1.row (fun h => by cases h)) (by omega) (by simp; omega) ?_; intro a9 c9 w9 ho9 hg9 ht9)
        have HA := hidP (And.intro ho9 (And.intro hg9 ht9))
        clear ho9 hg9 ht9
        go_roundw
        case rel =>
          have hz7 := fun j hj => (OwnG.lt HO7.out j hj).2
          have hne : ∀ j, (Value.slice a6 p6 c6).ownBlock = some j → j ≠ w3.heap.size := fun j hj he => by have h5 := (OwnG.lt HO6.out j hj).1; omega
          have hb2 := HZ.out.2.1
          refine ⟨k + 1, p6 + 1, p7, a9, c9, a7, c7, by omega, by go_num, rfl, ?_, ?_, ?_, ?_, ?_, ?_, ?_⟩
          · rw [HSt.out.2, List.length_append, ← HP67.out.1]; rfl
          · rw [HSt.out.1]; exact HP67.out.2
          · rw [HSt.out.2]; exact HA.out.1
          · rw [HSt.out.1]; exact OwnG.grown HZ.out.2.2.2 HA.out.2.1 (fun j hj he => HDj.out j hj he)
          · intro j h7 h6
            rcases HA.out.2.2 with h | h
            · rw [h] at h6
              exact HDj.out j h7 ((ob_len a6 p6 c6 (p6 + 1) c9).trans h6)
            · rw [h, ob_some, Option.some.injEq] at h6
              have h8 := hz7 j h7
              simp at h6
              omega
          · exact ⟨cell_grown HA.out.2.1 ((hb2.cell vL).trans HV.out.1) hne, cell_grown HA.out.2.1 ((hb2.cell vL).trans HV.out.2.1) hne, cell_grown HA.out.2.1 ((hb2.cell vL).trans HV.out.2.2.1) hne, fun o => frz_grown HA.out.2.1 (Nat.lt_of_lt_of_le vL hb2.size) ((hb2.frozen vL).trans (HV.out.2.2.2 o)) hne⟩
          · exact (HBel.out.trans (hb2.mono hGr)).grown HA.out.2.1 (by simp; omega) (fun j hj => by have h5 := (OwnG.lt HO6.out j hj).1; omega)
        case measure => simp [intOf]; omega
      · have hu2 : decide (q.u ≤ now) = false := by have := of_decide_eq_true hu; exact decide_eq_false (by omega)
        have HSt := hidP (stay_yes HQk.out hu)
        go_wp2_with fail
        have HSx : Hid (∀ x, Below w3.heap.size wr x → (x.cell? ⟨w.heap.size, 0, none⟩ = some (.slice (some ⟨p, o, none⟩) n c) ∧ x.cell? ⟨p, o + k * 6, none⟩ = some (.bool q.a.s) ∧ x.cell? ⟨p, o + k * 6 + 1, none⟩ = some (.int .i64 q.a.H.toInt) ∧ x.cell? ⟨p, o + k * 6 + 2, none⟩ = some (.int .i64 q.a.L.toInt) ∧ x.cell? ⟨p, o + k * 6 + 3, none⟩ = some (.string q.t) ∧ x.cell? ⟨p, o + k * 6 + 4, none⟩ = some (.int .i64 q.k) ∧ x.cell? ⟨p, o + k * 6 + 5, none⟩ = some (.int .i64 q.u) ∧ Below w3.heap.size wr x)) := hidP fun x h =>
          ⟨(h.cell HQ.out.2.2.2.2).trans B0, (h.cell HPG.out).trans d0, (h.cell HPG.out).trans d1, (h.cell HPG.out).trans d2, (h.cell HPG.out).trans d3, (h.cell HPG.out).trans d4, (h.cell HPG.out).trans d5, h⟩
        refine wp_region_held_drew (S := (fun x => x.cell? ⟨w.heap.size, 0, none⟩ = some (.slice (some ⟨p, o, none⟩) n c) ∧ x.cell? ⟨p, o + k * 6, none⟩ = some (.bool q.a.s) ∧ x.cell? ⟨p, o + k * 6 + 1, none⟩ = some (.int .i64 q.a.H.toInt) ∧ x.cell? ⟨p, o + k * 6 + 2, none⟩ = some (.int .i64 q.a.L.toInt) ∧ x.cell? ⟨p, o + k * 6 + 3, none⟩ = some (.string q.t) ∧ x.cell? ⟨p, o + k * 6 + 4, none⟩ = some (.int .i64 q.k) ∧ x.cell? ⟨p, o + k * 6 + 5, none⟩ = some (.int .i64 q.u) ∧ Below w3.heap.size wr x)) (by kernel_rfl) ?_ (fun hHeld => ?_)
        · try dsimp only
          exact HSx.out _ (Below.refl _ _).drew
        refine wpAnyH_take (i := 0) (oi := ⟨some 55, _, _, _, _, _⟩) (v := ?_) rfl (by kernel_rfl) (by kernel_rfl) (by kernel_rfl) (fun _ _ _ h => h) (Or.inl ⟨by rfl, ?_⟩) (by assumption) ?_
        rotate_left
        · intro w hSw
          try dsimp only at hSw
          go_simp
          try with_reducible rfl
        simp only [Act.put, List.setIfInBounds_toArray, List.set_cons_zero, List.set_cons_succ]
        refine wpAnyH_take (i := 2) (oi := ⟨some 57, _, _, _, _, _⟩) (v := ?_) rfl (by kernel_rfl) (by kernel_rfl) (by kernel_rfl) (fun _ _ _ h => h) (Or.inl ⟨by rfl, ?_⟩) (by assumption) ?_
        rotate_left
        · intro w hSw
          try dsimp only at hSw
          go_simp
          try with_reducible rfl
        simp only [Act.put, List.setIfInBounds_toArray, List.set_cons_zero, List.set_cons_succ]
        refine wpAnyH_take (i := 3) (oi := ⟨some 58, _, _, _, _, _⟩) (v := ?_) rfl (by kernel_rfl) (by kernel_rfl) (by kernel_rfl) (fun _ _ _ h => h) (Or.inl ⟨by rfl, ?_⟩) (by assumption) ?_
        rotate_left
        · intro w hSw
          try dsimp only at hSw
          go_simp
          try with_reducible rfl
        simp only [Act.put, List.setIfInBounds_toArray, List.set_cons_zero, List.set_cons_succ]
        refine wpAnyH_take (i := 4) (oi := ⟨some 59, _, _, _, _, _⟩) (v := ?_) rfl (by kernel_rfl) (by kernel_rfl) (by kernel_rfl) (fun _ _ _ h => h) (Or.inl ⟨by rfl, ?_⟩) (by assumption) ?_
        rotate_left
        · intro w hSw
          try dsimp only at hSw
          go_simp
          try with_reducible rfl
        simp only [Act.put, List.setIfInBounds_toArray, List.set_cons_zero, List.set_cons_succ]
        refine wpAnyH_take (i := 5) (oi := ⟨some 60, _, _, _, _, _⟩) (v := ?_) rfl (by kernel_rfl) (by kernel_rfl) (by kernel_rfl) (fun _ _ _ h => h) (Or.inl ⟨by rfl, ?_⟩) (by assumption) ?_
        rotate_left
        · intro w hSw
          try dsimp only at hSw
          go_simp
          try with_reducible rfl
        simp only [Act.put, List.setIfInBounds_toArray, List.set_cons_zero, List.set_cons_succ]
        refine wpAnyH_take (i := 6) (oi := ⟨some 61, _, _, _, _, _⟩) (v := ?_) rfl (by kernel_rfl) (by kernel_rfl) (by kernel_rfl) (fun _ _ _ h => h) (Or.inl ⟨by rfl, ?_⟩) (by assumption) ?_
        rotate_left
        · intro w hSw
          try dsimp only at hSw
          go_simp
          try with_reducible rfl
        simp only [Act.put, List.setIfInBounds_toArray, List.set_cons_zero, List.set_cons_succ]
        refine wpAnyH_ready (rs := [1, 7]) (by kernel_rfl) (by simp) ?_
        refine AllReadyH.cons rfl (fun K hK => ?_) (AllReadyH.cons rfl (fun K hK => ?_) AllReadyH.nil)
        · have v0d : wr.drew.cell? ⟨w3.heap.size, 0, none⟩ = some (.slice a7 p7 c7) := v0
          go_simp
          refine hK.out _ _ ?_ (fun hHeld => ?_)
          · try dsimp only
            exact HSx.out _ (Below.refl _ _).drew
          clear hK K
          refine wpAnyH_ready (rs := [7]) (by kernel_rfl) (by simp) ?_
          refine AllReadyH.cons rfl (fun K hK => ?_) AllReadyH.nil
          go_simp
          have one := own_oneG KLs wr 0 35 q (Nat.zero_le _)
          have zb := alloc_below wr (.cells #[.bool q.a.s, .int .i64 q.a.H.toInt, .int .i64 q.a.L.toInt, .string q.t, .int .i64 q.k, .int .i64 q.u] 35)
          have one : OwnG KLs 35 (wr.alloc (.cells #[.bool q.a.s, .int .i64 q.a.H.toInt, .int .i64 q.a.L.toInt, .string q.t, .int .i64 q.k, .int .i64 q.u] 35)).drew 0 (.slice (some ⟨wr.heap.size, 0, none⟩) 1 1) [q] := OwnG.drewG one
          have zb : Below wr.heap.size wr (wr.alloc (.cells #[.bool q.a.s, .int .i64 q.a.H.toInt, .int .i64 q.a.L.toInt, .string q.t, .int .i64 q.k, .int .i64 q.u] 35)).drew := zb.drew
          have v4 : (wr.alloc (.cells #[.bool q.a.s, .int .i64 q.a.H.toInt, .int .i64 q.a.L.toInt, .string q.t, .int .i64 q.k, .int .i64 q.u] 35)).drew.cell? ⟨w3.heap.size, 0, none⟩ = some (.slice a7 p7 c7) := (zb.cell vL).trans HV.out.1
          generalize (wr.alloc (.cells #[.bool q.a.s, .int .i64 q.a.H.toInt, .int .i64 q.a.L.toInt, .string q.t, .int .i64 q.k, .int .i64 q.u] 35)).drew = w4 at *
          refine hK.out _ _ ?_ (fun hHeld => ?_)
          · try dsimp only
            exact HSx.out _ (zb.mono hGr)
          clear hK K
          refine wpAnyH_ready (rs := [8]) (by kernel_rfl) (by simp) ?_
          refine AllReadyH.cons rfl (fun K hK => ?_) AllReadyH.nil
          have HZ := hidP (And.intro one (And.intro zb (And.intro (OwnG.later HO6.out zb) (OwnG.later HO7.out zb))))
          have hG4 : (w3.heap.size + 1) ≤ w4.heap.size := by have := zb.size; omega
          clear one zb
          refine step_appG Tryz.tyLs _ rfl (.tmp 56) (.tmp 62) 24 rfl (w3.heap.size + 1) a7 p7 c7 1 (stayL now (ls.take k)) [q] (.slice (some ⟨wr.heap.size, 0, none⟩) 1 1) rfl HP67.out.2 rfl HZ.out.2.2.2 rfl (src_rowG Tryz.tyLs.1 1 1 (by show 0 < 6; omega) rfl HZ.out.1.row (fun h => by cases h)) (by omega) hG4 ?_
          intro a9 c9 w9 ho9 hg9 ht9
          have hne : ∀ j, (Value.slice a7 p7 c7).ownBlock = some j → j ≠ w3.heap.size := fun j hj he => by have h5 := (OwnG.lt HO7.out j hj).1; omega
          have hb2 := HZ.out.2.1
          have x0 := cell_grown hg9 ((hb2.cell vL).trans HV.out.1) hne
          have x1 := cell_grown hg9 ((hb2.cell vL).trans HV.out.2.1) hne
          have x2 := cell_grown hg9 ((hb2.cell vL).trans HV.out.2.2.1) hne
          have xF : ∀ o, w9.frozen? ⟨w3.heap.size, o, none⟩ = false := fun o => frz_grown hg9 (Nat.lt_of_lt_of_le vL hb2.size) ((hb2.frozen vL).trans (HV.out.2.2.2 o)) hne
          have b9 : Below w3.heap.size wr w9 := (hb2.mono hGr).grown hg9 (by have := hb2.size; omega) (fun j hj => by have h5 := (OwnG.lt HO7.out j hj).1; omega)
          have HA := hidP (And.intro ho9 (And.intro hg9 (And.intro ht9 (And.intro b9 hb2.size))))
          clear ho9 hg9 ht9 hb2
          refine hK.out _ _ ?_ (fun hHeld => ?_)
          · try dsimp only
            exact HSx.out _ (b9)
          clear hK K
          refine wpAnyH_take (i := 9) (oi := ⟨some 64, _, _, _, _, _⟩) (v := ?_) rfl (by kernel_rfl) (by kernel_rfl) (by kernel_rfl) (fun _ _ _ h => h) (Or.inl ⟨by rfl, ?_⟩) (by assumption) ?_
          rotate_left
          · intro w hSw
            try dsimp only at hSw
            go_simp
            try with_reducible rfl
          simp only [Act.put, List.setIfInBounds_toArray]
          refine wpAnyH_ready (rs := [10]) (by kernel_rfl) (by simp) ?_
          refine AllReadyH.cons rfl (fun K hK => ?_) AllReadyH.nil
          go_simp
          refine hK.out _ _ ?_ (fun hHeld => ?_)
          · try dsimp only
            exact HSx.out _ (b9.setCell (Nat.le_refl _) _)
          clear hK K
          refine wpAnyH_done (by kernel_rfl) ?_ _
          clear hHeld
          go_wp2_with fail
          go_roundw
          case rel =>
            have hz6 := fun j hj => (OwnG.lt HO6.out j hj).2
            have h9 := HA.out
            refine ⟨k + 1, p6, p7 + 1, a6, c6, a9, c9, by omega, by go_num, rfl, ?_, ?_, ?_, ?_, ?_, ?_, ?_⟩
            · rw [HSt.out.2]; exact HP67.out.1
            · rw [HSt.out.1, List.length_append, ← HP67.out.2]; rfl
            · rw [HSt.out.2]
              exact OwnG.grown (OwnG.grown HZ.out.2.2.1 h9.2.1 (fun j hj he => HDj.out j he hj)) (grown_cellG _ _ _ _) (OwnG.ne_of HO6.out (by omega))
            · rw [HSt.out.1]
              exact OwnG.grown h9.1 (grown_cellG _ _ _ _) (OwnG.ne_of h9.1 (by omega))
            · intro j h7 h6
              rcases h9.2.2.1 with h | h
              · rw [h] at h7
                exact HDj.out j ((ob_len a7 p7 c7 (p7 + 1) c9).trans h7) h6
              · rw [h, ob_some, Option.some.injEq] at h7
                have h8 := hz6 j h6
                have h10 := h9.2.2.2.2
                omega
            · exact ⟨by simp [go_sem, x0], cell_oth x1 (by omega), cell_oth x2 (by omega), fun o => frz_set1 (xF o)⟩
            · exact HBel.out.trans (h9.2.2.2.1.setCell (Nat.le_refl _) _)
          case measure => simp [intOf]; omega
        · go_simp
          have one := own_oneG KLs wr 0 35 q (Nat.zero_le _)
          have zb := alloc_below wr (.cells #[.bool q.a.s, .int .i64 q.a.H.toInt, .int .i64 q.a.L.toInt, .string q.t, .int .i64 q.k, .int .i64 q.u] 35)
          have one : OwnG KLs 35 (wr.alloc (.cells #[.bool q.a.s, .int .i64 q.a.H.toInt, .int .i64 q.a.L.toInt, .string q.t, .int .i64 q.k, .int .i64 q.u] 35)).drew 0 (.slice (some ⟨wr.heap.size, 0, none⟩) 1 1) [q] := OwnG.drewG one
          have zb : Below wr.heap.size wr (wr.alloc (.cells #[.bool q.a.s, .int .i64 q.a.H.toInt, .int .i64 q.a.L.toInt, .string q.t, .int .i64 q.k, .int .i64 q.u] 35)).drew := zb.drew
          have v4 : (wr.alloc (.cells #[.bool q.a.s, .int .i64 q.a.H.toInt, .int .i64 q.a.L.toInt, .string q.t, .int .i64 q.k, .int .i64 q.u] 35)).drew.cell? ⟨w3.heap.size, 0, none⟩ = some (.slice a7 p7 c7) := (zb.cell vL).trans HV.out.1
          generalize (wr.alloc (.cells #[.bool q.a.s, .int .i64 q.a.H.toInt, .int .i64 q.a.L.toInt, .string q.t, .int .i64 q.k, .int .i64 q.u] 35)).drew = w4 at *
          refine hK.out _ _ ?_ (fun hHeld => ?_)
          · try dsimp only
            exact HSx.out _ (zb.mono hGr)
          clear hK K
          refine wpAnyH_ready (rs := [1]) (by kernel_rfl) (by simp) ?_
          refine AllReadyH.cons rfl (fun K hK => ?_) AllReadyH.nil
          go_simp
          refine hK.out _ _ ?_ (fun hHeld => ?_)
          · try dsimp only
            exact HSx.out _ (zb.mono hGr)
          clear hK K
          refine wpAnyH_ready (rs := [8]) (by kernel_rfl) (by simp) ?_
          refine AllReadyH.cons rfl (fun K hK => ?_) AllReadyH.nil
          have HZ := hidP (And.intro one (And.intro zb (And.intro (OwnG.later HO6.out zb) (OwnG.later HO7.out zb))))
          have hG4 : (w3.heap.size + 1) ≤ w4.heap.size := by have := zb.size; omega
          clear one zb
          refine step_appG Tryz.tyLs _ rfl (.tmp 56) (.tmp 62) 24 rfl (w3.heap.size + 1) a7 p7 c7 1 (stayL now (ls.take k)) [q] (.slice (some ⟨wr.heap.size, 0, none⟩) 1 1) rfl HP67.out.2 rfl HZ.out.2.2.2 rfl (src_rowG Tryz.tyLs.1 1 1 (by show 0 < 6; omega) rfl HZ.out.1.row (fun h => by cases h)) (by omega) hG4 ?_
          intro a9 c9 w9 ho9 hg9 ht9
          have hne : ∀ j, (Value.slice a7 p7 c7).ownBlock = some j → j ≠ w3.heap.size := fun j hj he => by have h5 := (OwnG.lt HO7.out j hj).1; omega
          have hb2 := HZ.out.2.1
          have x0 := cell_grown hg9 ((hb2.cell vL).trans HV.out.1) hne
          have x1 := cell_grown hg9 ((hb2.cell vL).trans HV.out.2.1) hne
          have x2 := cell_grown hg9 ((hb2.cell vL).trans HV.out.2.2.1) hne
          have xF : ∀ o, w9.frozen? ⟨w3.heap.size, o, none⟩ = false := fun o => frz_grown hg9 (Nat.lt_of_lt_of_le vL hb2.size) ((hb2.frozen vL).trans (HV.out.2.2.2 o)) hne
          have b9 : Below w3.heap.size wr w9 := (hb2.mono hGr).grown hg9 (by have := hb2.size; omega) (fun j hj => by have h5 := (OwnG.lt HO7.out j hj).1; omega)
          have HA := hidP (And.intro ho9 (And.intro hg9 (And.intro ht9 (And.intro b9 hb2.size))))
          clear ho9 hg9 ht9 hb2
          refine hK.out _ _ ?_ (fun hHeld => ?_)
          · try dsimp only
            exact HSx.out _ (b9)
          clear hK K
          refine wpAnyH_take (i := 9) (oi := ⟨some 64, _, _, _, _, _⟩) (v := ?_) rfl (by kernel_rfl) (by kernel_rfl) (by kernel_rfl) (fun _ _ _ h => h) (Or.inl ⟨by rfl, ?_⟩) (by assumption) ?_
          rotate_left
          · intro w hSw
            try dsimp only at hSw
            go_simp
            try with_reducible rfl
          simp only [Act.put, List.setIfInBounds_toArray]
          refine wpAnyH_ready (rs := [10]) (by kernel_rfl) (by simp) ?_
          refine AllReadyH.cons rfl (fun K hK => ?_) AllReadyH.nil
          go_simp
          refine hK.out _ _ ?_ (fun hHeld => ?_)
          · try dsimp only
            exact HSx.out _ (b9.setCell (Nat.le_refl _) _)
          clear hK K
          refine wpAnyH_done (by kernel_rfl) ?_ _
          clear hHeld
          go_wp2_with fail
          go_roundw
          case rel =>
            have hz6 := fun j hj => (OwnG.lt HO6.out j hj).2
            have h9 := HA.out
            refine ⟨k + 1, p6, p7 + 1, a6, c6, a9, c9, by omega, by go_num, rfl, ?_, ?_, ?_, ?_, ?_, ?_, ?_⟩
            · rw [HSt.out.2]; exact HP67.out.1
            · rw [HSt.out.1, List.length_append, ← HP67.out.2]; rfl
            · rw [HSt.out.2]
              exact OwnG.grown (OwnG.grown HZ.out.2.2.1 h9.2.1 (fun j hj he => HDj.out j he hj)) (grown_cellG _ _ _ _) (OwnG.ne_of HO6.out (by omega))
            · rw [HSt.out.1]
              exact OwnG.grown h9.1 (grown_cellG _ _ _ _) (OwnG.ne_of h9.1 (by omega))
            · intro j h7 h6
              rcases h9.2.2.1 with h | h
              · rw [h] at h7
                exact HDj.out j ((ob_len a7 p7 c7 (p7 + 1) c9).trans h7) h6
              · rw [h, ob_some, Option.some.injEq] at h7
                have h8 := hz6 j h6
                have h10 := h9.2.2.2.2
                omega
            · exact ⟨by simp [go_sem, x0], cell_oth x1 (by omega), cell_oth x2 (by omega), fun o => frz_set1 (xF o)⟩
            · exact HBel.out.trans (h9.2.2.2.1.setCell (Nat.le_refl _) _)
          case measure => simp [intOf]; omega
    · have hkn : k = n := by omega
      have HF6 : Hid (OwnG KAd 28 wr (w3.heap.size + 1) (.slice a6 p6 c6) (goneL now ls) ∧ OwnG KLs 35 wr (w3.heap.size + 1) (.slice a7 p7 c7) (stayL now ls) ∧ p6 = (goneL now ls).length ∧ p7 = (stayL now ls).length) := hidP (by
        have h6 := HO6.out; have h7 := HO7.out; have h8 := HP67.out
        rw [hkn, List.take_of_length_le (by have := HN.out; omega)] at h6 h7 h8
        exact ⟨h6, h7, h8.1, h8.2⟩)
      have qr0 := (hbel.cell HQ.out.2.2.2.1).trans rs0_W9
      have qr1 := (hbel.cell HQ.out.2.2.2.1).trans rs1_W9
      have qr2 := (hbel.cell HQ.out.2.2.2.1).trans rs2_W9
      have qrF : ∀ o, wr.frozen? ⟨w.heap.size + 1, o, none⟩ = false := fun o => (hbel.frozen HQ.out.2.2.2.1).trans (rsF_W9 o)
      have qM : w.heap.size + 1 < wr.heap.size := by have := HQ.out; omega
      have HAc := hidP (acc_W9.out.trans (hbel.mono (Nat.le_of_lt HQ.out.2.2.2.2)))
      clear hbel HO6 HO7 HP67 rs0_W9 rs1_W9 rs2_W9 rsF_W9
      go_wp2_with fail
      have HE := HF6.out
      obtain ⟨e6, e7, e8, e9⟩ := HE
      rw [e8] at e6
      rw [e9] at e7
      refine bodyPost_ret (v := .tuple #[.agg #[.slice a7 p7 c7, .int .i64 T, .int .i64 now], .slice a6 p6 c6]) (by simp [results, Tryz.results57, go_sem, qr0, qr1, qr2]) rfl ⟨a7, c7, a6, c6, by rw [e8, e9], ?_, ?_, ?_, ?_⟩
      · refine OwnG.mono (B := (w3.heap.size + 1)) ?_ (by have := HQ.out; omega)
        iterate 3 (with_reducible refine OwnG.grown ?_ (grown_cellG _ _ _ _) ?_; rotate_left; (focus (exact OwnG.ne_of e7 (by have := HQ.out; omega))))
        with_reducible exact e7
      · refine OwnG.mono (B := (w3.heap.size + 1)) ?_ (by have := HQ.out; omega)
        iterate 3 (with_reducible refine OwnG.grown ?_ (grown_cellG _ _ _ _) ?_; rotate_left; (focus (exact OwnG.ne_of e6 (by have := HQ.out; omega))))
        with_reducible exact e6
      · rw [← e8, ← e9]; exact HDj.out
      · repeat (with_reducible refine Below.setCell ?_ ?_ _; rotate_left; (focus (first | (simp; done) | (simp; omega))))
        exact HAc.out

end Go.Proofs.YtddnofonodgneaaGreatDoor
