/-
  The specification's Answer.
-/
import Derived.Test.YtjenbmiiikeenaaV7Tak
namespace Go.Proofs.Ytjenbmiiikeenaa
open Go.RowKit

set_option maxRecDepth 10000 in
set_option maxHeartbeats 4000000 in
theorem sAn_no (a : Option Addr) (n c : Nat) (N : Int) (ls : List Ss) (w : World) (hn : n = ls.length) (hB : RowG KSs w a ls) (hc : a = none → c = 0) (hl : n ≤ 1048576) (id s : Int) (rp : ByteArray) (u : Int) (C : Int) (T : ByteArray) (HA : ∀ (a : Option Addr) (c : Nat) (w : World), RowG KSs w a ls → Calls Try.prog 30 #[.agg #[.slice a n c, .int .i64 N], .int .i64 id, .int .i64 s] w fun e w' => e = .returned (.tuple #[.int .i64 C, .string T]) ∧ Below w.heap.size w w') (hr : ((((C == 0) && decide (s ≤ 1000000)) && decide ((rp.size : Int) ≤ 200)) && tmB u) = false) :
    Calls Try.prog 8 #[.agg #[.slice a n c, .int .i64 N], .int .i64 id, .int .i64 s, .string rp, .int .i64 u] w fun e w' => ∃ a' c', e = .returned (.tuple #[.agg #[.slice a' n c', .int .i64 N], .bool false]) ∧ OwnG KSs 39 w' w.heap.size (.slice a' n c') (ls) ∧ Below w.heap.size w w' := by
  have HCp := hidP (fun W h => l7Copy_any a n c N ls W hn (hB.later h) hc hl)
  have HAs := hidP (fun W h => HA a c W (hB.later h))
  have HT := hidP (l1In7_any u 0 1000000000)
  clear hB hn hc HA
  cases h1 : (C == 0)
  · have h1n : (C != 0) = true := by simp only [bne, h1]; rfl
    clear hr
    go_enter Try.func8, Try.ntmps8
    go_wp2_with fail
    obtain ⟨bk0_W1, bk1_W1⟩ := box2D w 26 (.slice a n c) (.int .i64 N)
    have bkF_W1 : ∀ o, (w.alloc (.cells #[.slice a n c, .int .i64 N] 26)).frozen? ⟨w.heap.size, o, none⟩ = false := fun o => by simp [go_sem]
    have bkL_W1 : w.heap.size < (w.alloc (.cells #[.slice a n c, .int .i64 N] 26)).heap.size := by simp
    have ab_W1 := alloc_below w (.cells #[.slice a n c, .int .i64 N] 26)
    have as_W1 : Hid ((w.alloc (.cells #[.slice a n c, .int .i64 N] 26)).heap.size = w.heap.size + 1) := hidP (by simp)
    generalize w.alloc (.cells #[.slice a n c, .int .i64 N] 26) = W1 at *
    have acc_W1 := hidP (ab_W1)
    have sz_W1 : Hid (w.heap.size ≤ W1.heap.size) := hidP ab_W1.size
    clear ab_W1 
    obtain ⟨rs0_W2, rs1_W2⟩ := box2D W1 26 (.slice none 0 0) (.int .i64 0)
    have rsF_W2 : ∀ o, (W1.alloc (.cells #[.slice none 0 0, .int .i64 0] 26)).frozen? ⟨W1.heap.size, o, none⟩ = false := fun o => by simp [go_sem]
    have rsL_W2 : W1.heap.size < (W1.alloc (.cells #[.slice none 0 0, .int .i64 0] 26)).heap.size := by simp
    have ab_W2 := alloc_below W1 (.cells #[.slice none 0 0, .int .i64 0] 26)
    have as_W2 : Hid ((W1.alloc (.cells #[.slice none 0 0, .int .i64 0] 26)).heap.size = W1.heap.size + 1) := hidP (by simp)
    generalize W1.alloc (.cells #[.slice none 0 0, .int .i64 0] 26) = W2 at *
    have bk0_W2 := (ab_W2.cell bkL_W1).trans bk0_W1
    have bk1_W2 := (ab_W2.cell bkL_W1).trans bk1_W1
    have bkF_W2 : ∀ o, W2.frozen? ⟨w.heap.size, o, none⟩ = false := fun o => (ab_W2.frozen bkL_W1).trans (bkF_W1 o)
    have bkL_W2 : w.heap.size < W2.heap.size := Nat.lt_of_lt_of_le bkL_W1 ab_W2.size
    have acc_W2 := hidP (acc_W1.out.trans (ab_W2.mono acc_W1.out.size))
    have sz_W2 : Hid (W1.heap.size ≤ W2.heap.size) := hidP ab_W2.size
    clear ab_W2 bk0_W1 bk1_W1 bkF_W1 bkL_W1 acc_W1
    rw [as_W1.out] at rs0_W2 rs1_W2 rsL_W2
    have rsF_W2' : ∀ o, W2.frozen? ⟨w.heap.size + 1, o, none⟩ = false := fun o => by have := rsF_W2 o; rw [as_W1.out] at this; exact this
    clear rsF_W2
    have rsF_W2 := rsF_W2'
    clear rsF_W2'
    refine (HCp.out _ acc_W2.out).mono ?_
    rintro e w3 ⟨a3, c3, rfl, og3, hb3⟩
    have OG := hidP og3
    clear og3
    have bk0_w3 := (hb3.cell bkL_W2).trans bk0_W2
    have bk1_w3 := (hb3.cell bkL_W2).trans bk1_W2
    have bkF_w3 : ∀ o, w3.frozen? ⟨w.heap.size, o, none⟩ = false := fun o => (hb3.frozen bkL_W2).trans (bkF_W2 o)
    have bkL_w3 : w.heap.size < w3.heap.size := Nat.lt_of_lt_of_le bkL_W2 hb3.size
    have rs0_w3 := (hb3.cell rsL_W2).trans rs0_W2
    have rs1_w3 := (hb3.cell rsL_W2).trans rs1_W2
    have rsF_w3 : ∀ o, w3.frozen? ⟨w.heap.size + 1, o, none⟩ = false := fun o => (hb3.frozen rsL_W2).trans (rsF_W2 o)
    have rsL_w3 : w.heap.size + 1 < w3.heap.size := Nat.lt_of_lt_of_le rsL_W2 hb3.size
    have acc_w3 := hidP (acc_W2.out.trans (hb3.mono acc_W2.out.size))
    have sz_w3 : Hid (W2.heap.size ≤ w3.heap.size) := hidP hb3.size
    clear hb3 bk0_W2 bk1_W2 bkF_W2 bkL_W2 rs0_W2 rs1_W2 rsF_W2 rsL_W2 acc_W2
    have oL_w3 := hidP (OG.out)
    have lhL : Hid (∀ k, (Value.slice a3 n c3).ownBlock = some k → W2.heap.size ≤ k ∧ k < w3.heap.size) := hidP (fun k hk => OwnG.lt oL_w3.out k hk)
    clear OG
    go_wp2_with fail
    obtain ⟨ou0_W4, ou1_W4⟩ := box2D w3 26 (.slice a3 n c3) (.int .i64 N)
    have ouF_W4 : ∀ o, (w3.alloc (.cells #[.slice a3 n c3, .int .i64 N] 26)).frozen? ⟨w3.heap.size, o, none⟩ = false := fun o => by simp [go_sem]
    have ouL_W4 : w3.heap.size < (w3.alloc (.cells #[.slice a3 n c3, .int .i64 N] 26)).heap.size := by simp
    have ab_W4 := alloc_below w3 (.cells #[.slice a3 n c3, .int .i64 N] 26)
    have as_W4 : Hid ((w3.alloc (.cells #[.slice a3 n c3, .int .i64 N] 26)).heap.size = w3.heap.size + 1) := hidP (by simp)
    generalize w3.alloc (.cells #[.slice a3 n c3, .int .i64 N] 26) = W4 at *
    have bk0_W4 := (ab_W4.cell bkL_w3).trans bk0_w3
    have bk1_W4 := (ab_W4.cell bkL_w3).trans bk1_w3
    have bkF_W4 : ∀ o, W4.frozen? ⟨w.heap.size, o, none⟩ = false := fun o => (ab_W4.frozen bkL_w3).trans (bkF_w3 o)
    have bkL_W4 : w.heap.size < W4.heap.size := Nat.lt_of_lt_of_le bkL_w3 ab_W4.size
    have rs0_W4 := (ab_W4.cell rsL_w3).trans rs0_w3
    have rs1_W4 := (ab_W4.cell rsL_w3).trans rs1_w3
    have rsF_W4 : ∀ o, W4.frozen? ⟨w.heap.size + 1, o, none⟩ = false := fun o => (ab_W4.frozen rsL_w3).trans (rsF_w3 o)
    have rsL_W4 : w.heap.size + 1 < W4.heap.size := Nat.lt_of_lt_of_le rsL_w3 ab_W4.size
    have oL_W4 := hidP (OwnG.later oL_w3.out ab_W4)
    have acc_W4 := hidP (acc_w3.out.trans (ab_W4.mono acc_w3.out.size))
    have sz_W4 : Hid (w3.heap.size ≤ W4.heap.size) := hidP ab_W4.size
    clear ab_W4 bk0_w3 bk1_w3 bkF_w3 bkL_w3 rs0_w3 rs1_w3 rsF_w3 rsL_w3 oL_w3 acc_w3
    refine (HAs.out _ acc_W4.out).mono ?_
    rintro e w5 ⟨rfl, hb5⟩
    have bk0_w5 := (hb5.cell bkL_W4).trans bk0_W4
    have bk1_w5 := (hb5.cell bkL_W4).trans bk1_W4
    have bkF_w5 : ∀ o, w5.frozen? ⟨w.heap.size, o, none⟩ = false := fun o => (hb5.frozen bkL_W4).trans (bkF_W4 o)
    have bkL_w5 : w.heap.size < w5.heap.size := Nat.lt_of_lt_of_le bkL_W4 hb5.size
    have rs0_w5 := (hb5.cell rsL_W4).trans rs0_W4
    have rs1_w5 := (hb5.cell rsL_W4).trans rs1_W4
    have rsF_w5 : ∀ o, w5.frozen? ⟨w.heap.size + 1, o, none⟩ = false := fun o => (hb5.frozen rsL_W4).trans (rsF_W4 o)
    have rsL_w5 : w.heap.size + 1 < w5.heap.size := Nat.lt_of_lt_of_le rsL_W4 hb5.size
    have ou0_w5 := (hb5.cell ouL_W4).trans ou0_W4
    have ou1_w5 := (hb5.cell ouL_W4).trans ou1_W4
    have ouF_w5 : ∀ o, w5.frozen? ⟨w3.heap.size, o, none⟩ = false := fun o => (hb5.frozen ouL_W4).trans (ouF_W4 o)
    have ouL_w5 : w3.heap.size < w5.heap.size := Nat.lt_of_lt_of_le ouL_W4 hb5.size
    have oL_w5 := hidP (OwnG.later oL_W4.out hb5)
    have acc_w5 := hidP (acc_W4.out.trans (hb5.mono acc_W4.out.size))
    have sz_w5 : Hid (W4.heap.size ≤ w5.heap.size) := hidP hb5.size
    clear hb5 bk0_W4 bk1_W4 bkF_W4 bkL_W4 rs0_W4 rs1_W4 rsF_W4 rsL_W4 ou0_W4 ou1_W4 ouF_W4 ouL_W4 oL_W4 acc_W4
    go_wp2_with fail
    refine bodyPost_ret (v := .tuple #[.agg #[.slice a3 n c3, .int .i64 N], .bool false]) (by simp [results, Try.results8, go_sem, rs0_w5, rs1_w5]) rfl ⟨_, _, rfl, ?_, ?_⟩
    · refine OwnG.mono (B := W2.heap.size) ?_ (by have := as_W1.out; have := sz_W1.out; have := as_W2.out; have := sz_W2.out; have := sz_w3.out; have := as_W4.out; have := sz_W4.out; have := sz_w5.out; omega)
      iterate 2 (with_reducible refine OwnG.grown ?_ (grown_cellG _ _ _ _) ?_; rotate_left; (focus (first | exact OwnG.ne_of oL_w5.out (by have := as_W1.out; have := sz_W1.out; have := as_W2.out; have := sz_W2.out; have := sz_w3.out; have := as_W4.out; have := sz_W4.out; have := sz_w5.out; omega))))
      with_reducible exact oL_w5.out
    · repeat (with_reducible refine Below.setCell ?_ ?_ _; rotate_left; (focus (first | (simp; done) | (simp; omega) | (dsimp only; have := as_W1.out; have := sz_W1.out; have := as_W2.out; have := sz_W2.out; have := sz_w3.out; have := as_W4.out; have := sz_W4.out; have := sz_w5.out; omega))))
      exact acc_w5.out
  · have h1n : (C != 0) = false := by simp only [bne, h1]; rfl
    cases h2 : decide ((200 : Int) < (rp.size : Int))
    · rw [h1, decide_eq_true (show (rp.size : Int) ≤ 200 by have := of_decide_eq_false h2; omega)] at hr
      cases h3 : (decide (0 ≤ u) && decide (u ≤ 1000000000))
      · rw [h3] at HT
        clear hr h3
        go_enter Try.func8, Try.ntmps8
        go_wp2_with fail
        obtain ⟨bk0_W1, bk1_W1⟩ := box2D w 26 (.slice a n c) (.int .i64 N)
        have bkF_W1 : ∀ o, (w.alloc (.cells #[.slice a n c, .int .i64 N] 26)).frozen? ⟨w.heap.size, o, none⟩ = false := fun o => by simp [go_sem]
        have bkL_W1 : w.heap.size < (w.alloc (.cells #[.slice a n c, .int .i64 N] 26)).heap.size := by simp
        have ab_W1 := alloc_below w (.cells #[.slice a n c, .int .i64 N] 26)
        have as_W1 : Hid ((w.alloc (.cells #[.slice a n c, .int .i64 N] 26)).heap.size = w.heap.size + 1) := hidP (by simp)
        generalize w.alloc (.cells #[.slice a n c, .int .i64 N] 26) = W1 at *
        have acc_W1 := hidP (ab_W1)
        have sz_W1 : Hid (w.heap.size ≤ W1.heap.size) := hidP ab_W1.size
        clear ab_W1 
        obtain ⟨rs0_W2, rs1_W2⟩ := box2D W1 26 (.slice none 0 0) (.int .i64 0)
        have rsF_W2 : ∀ o, (W1.alloc (.cells #[.slice none 0 0, .int .i64 0] 26)).frozen? ⟨W1.heap.size, o, none⟩ = false := fun o => by simp [go_sem]
        have rsL_W2 : W1.heap.size < (W1.alloc (.cells #[.slice none 0 0, .int .i64 0] 26)).heap.size := by simp
        have ab_W2 := alloc_below W1 (.cells #[.slice none 0 0, .int .i64 0] 26)
        have as_W2 : Hid ((W1.alloc (.cells #[.slice none 0 0, .int .i64 0] 26)).heap.size = W1.heap.size + 1) := hidP (by simp)
        generalize W1.alloc (.cells #[.slice none 0 0, .int .i64 0] 26) = W2 at *
        have bk0_W2 := (ab_W2.cell bkL_W1).trans bk0_W1
        have bk1_W2 := (ab_W2.cell bkL_W1).trans bk1_W1
        have bkF_W2 : ∀ o, W2.frozen? ⟨w.heap.size, o, none⟩ = false := fun o => (ab_W2.frozen bkL_W1).trans (bkF_W1 o)
        have bkL_W2 : w.heap.size < W2.heap.size := Nat.lt_of_lt_of_le bkL_W1 ab_W2.size
        have acc_W2 := hidP (acc_W1.out.trans (ab_W2.mono acc_W1.out.size))
        have sz_W2 : Hid (W1.heap.size ≤ W2.heap.size) := hidP ab_W2.size
        clear ab_W2 bk0_W1 bk1_W1 bkF_W1 bkL_W1 acc_W1
        rw [as_W1.out] at rs0_W2 rs1_W2 rsL_W2
        have rsF_W2' : ∀ o, W2.frozen? ⟨w.heap.size + 1, o, none⟩ = false := fun o => by have := rsF_W2 o; rw [as_W1.out] at this; exact this
        clear rsF_W2
        have rsF_W2 := rsF_W2'
        clear rsF_W2'
        refine (HCp.out _ acc_W2.out).mono ?_
        rintro e w3 ⟨a3, c3, rfl, og3, hb3⟩
        have OG := hidP og3
        clear og3
        have bk0_w3 := (hb3.cell bkL_W2).trans bk0_W2
        have bk1_w3 := (hb3.cell bkL_W2).trans bk1_W2
        have bkF_w3 : ∀ o, w3.frozen? ⟨w.heap.size, o, none⟩ = false := fun o => (hb3.frozen bkL_W2).trans (bkF_W2 o)
        have bkL_w3 : w.heap.size < w3.heap.size := Nat.lt_of_lt_of_le bkL_W2 hb3.size
        have rs0_w3 := (hb3.cell rsL_W2).trans rs0_W2
        have rs1_w3 := (hb3.cell rsL_W2).trans rs1_W2
        have rsF_w3 : ∀ o, w3.frozen? ⟨w.heap.size + 1, o, none⟩ = false := fun o => (hb3.frozen rsL_W2).trans (rsF_W2 o)
        have rsL_w3 : w.heap.size + 1 < w3.heap.size := Nat.lt_of_lt_of_le rsL_W2 hb3.size
        have acc_w3 := hidP (acc_W2.out.trans (hb3.mono acc_W2.out.size))
        have sz_w3 : Hid (W2.heap.size ≤ w3.heap.size) := hidP hb3.size
        clear hb3 bk0_W2 bk1_W2 bkF_W2 bkL_W2 rs0_W2 rs1_W2 rsF_W2 rsL_W2 acc_W2
        have oL_w3 := hidP (OG.out)
        have lhL : Hid (∀ k, (Value.slice a3 n c3).ownBlock = some k → W2.heap.size ≤ k ∧ k < w3.heap.size) := hidP (fun k hk => OwnG.lt oL_w3.out k hk)
        clear OG
        go_wp2_with fail
        obtain ⟨ou0_W4, ou1_W4⟩ := box2D w3 26 (.slice a3 n c3) (.int .i64 N)
        have ouF_W4 : ∀ o, (w3.alloc (.cells #[.slice a3 n c3, .int .i64 N] 26)).frozen? ⟨w3.heap.size, o, none⟩ = false := fun o => by simp [go_sem]
        have ouL_W4 : w3.heap.size < (w3.alloc (.cells #[.slice a3 n c3, .int .i64 N] 26)).heap.size := by simp
        have ab_W4 := alloc_below w3 (.cells #[.slice a3 n c3, .int .i64 N] 26)
        have as_W4 : Hid ((w3.alloc (.cells #[.slice a3 n c3, .int .i64 N] 26)).heap.size = w3.heap.size + 1) := hidP (by simp)
        generalize w3.alloc (.cells #[.slice a3 n c3, .int .i64 N] 26) = W4 at *
        have bk0_W4 := (ab_W4.cell bkL_w3).trans bk0_w3
        have bk1_W4 := (ab_W4.cell bkL_w3).trans bk1_w3
        have bkF_W4 : ∀ o, W4.frozen? ⟨w.heap.size, o, none⟩ = false := fun o => (ab_W4.frozen bkL_w3).trans (bkF_w3 o)
        have bkL_W4 : w.heap.size < W4.heap.size := Nat.lt_of_lt_of_le bkL_w3 ab_W4.size
        have rs0_W4 := (ab_W4.cell rsL_w3).trans rs0_w3
        have rs1_W4 := (ab_W4.cell rsL_w3).trans rs1_w3
        have rsF_W4 : ∀ o, W4.frozen? ⟨w.heap.size + 1, o, none⟩ = false := fun o => (ab_W4.frozen rsL_w3).trans (rsF_w3 o)
        have rsL_W4 : w.heap.size + 1 < W4.heap.size := Nat.lt_of_lt_of_le rsL_w3 ab_W4.size
        have oL_W4 := hidP (OwnG.later oL_w3.out ab_W4)
        have acc_W4 := hidP (acc_w3.out.trans (ab_W4.mono acc_w3.out.size))
        have sz_W4 : Hid (w3.heap.size ≤ W4.heap.size) := hidP ab_W4.size
        clear ab_W4 bk0_w3 bk1_w3 bkF_w3 bkL_w3 rs0_w3 rs1_w3 rsF_w3 rsL_w3 oL_w3 acc_w3
        refine (HAs.out _ acc_W4.out).mono ?_
        rintro e w5 ⟨rfl, hb5⟩
        have bk0_w5 := (hb5.cell bkL_W4).trans bk0_W4
        have bk1_w5 := (hb5.cell bkL_W4).trans bk1_W4
        have bkF_w5 : ∀ o, w5.frozen? ⟨w.heap.size, o, none⟩ = false := fun o => (hb5.frozen bkL_W4).trans (bkF_W4 o)
        have bkL_w5 : w.heap.size < w5.heap.size := Nat.lt_of_lt_of_le bkL_W4 hb5.size
        have rs0_w5 := (hb5.cell rsL_W4).trans rs0_W4
        have rs1_w5 := (hb5.cell rsL_W4).trans rs1_W4
        have rsF_w5 : ∀ o, w5.frozen? ⟨w.heap.size + 1, o, none⟩ = false := fun o => (hb5.frozen rsL_W4).trans (rsF_W4 o)
        have rsL_w5 : w.heap.size + 1 < w5.heap.size := Nat.lt_of_lt_of_le rsL_W4 hb5.size
        have ou0_w5 := (hb5.cell ouL_W4).trans ou0_W4
        have ou1_w5 := (hb5.cell ouL_W4).trans ou1_W4
        have ouF_w5 : ∀ o, w5.frozen? ⟨w3.heap.size, o, none⟩ = false := fun o => (hb5.frozen ouL_W4).trans (ouF_W4 o)
        have ouL_w5 : w3.heap.size < w5.heap.size := Nat.lt_of_lt_of_le ouL_W4 hb5.size
        have oL_w5 := hidP (OwnG.later oL_W4.out hb5)
        have acc_w5 := hidP (acc_W4.out.trans (hb5.mono acc_W4.out.size))
        have sz_w5 : Hid (W4.heap.size ≤ w5.heap.size) := hidP hb5.size
        clear hb5 bk0_W4 bk1_W4 bkF_W4 bkL_W4 rs0_W4 rs1_W4 rsF_W4 rsL_W4 ou0_W4 ou1_W4 ouF_W4 ouL_W4 oL_W4 acc_W4
        go_wp2_with fail
        refine (HT.out _).mono ?_
        rintro e w6 ⟨rfl, hw6⟩
        rw [hw6]
        clear hw6 w6
        go_wp2_with fail
        refine bodyPost_ret (v := .tuple #[.agg #[.slice a3 n c3, .int .i64 N], .bool false]) (by simp [results, Try.results8, go_sem, rs0_w5, rs1_w5]) rfl ⟨_, _, rfl, ?_, ?_⟩
        · refine OwnG.mono (B := W2.heap.size) ?_ (by have := as_W1.out; have := sz_W1.out; have := as_W2.out; have := sz_W2.out; have := sz_w3.out; have := as_W4.out; have := sz_W4.out; have := sz_w5.out; omega)
          iterate 2 (with_reducible refine OwnG.grown ?_ (grown_cellG _ _ _ _) ?_; rotate_left; (focus (first | exact OwnG.ne_of oL_w5.out (by have := as_W1.out; have := sz_W1.out; have := as_W2.out; have := sz_W2.out; have := sz_w3.out; have := as_W4.out; have := sz_W4.out; have := sz_w5.out; omega))))
          with_reducible exact oL_w5.out
        · repeat (with_reducible refine Below.setCell ?_ ?_ _; rotate_left; (focus (first | (simp; done) | (simp; omega) | (dsimp only; have := as_W1.out; have := sz_W1.out; have := as_W2.out; have := sz_W2.out; have := sz_w3.out; have := as_W4.out; have := sz_W4.out; have := sz_w5.out; omega))))
          exact acc_w5.out
      · rw [h3] at HT
        have h4 : decide ((1000000 : Int) < s) = true := by
          have h5 : tmB u = true := h3
          rw [h5] at hr
          simp only [Bool.true_and, Bool.and_true] at hr
          exact decide_eq_true (by have := of_decide_eq_false hr; omega)
        clear hr h3
        go_enter Try.func8, Try.ntmps8
        go_wp2_with fail
        obtain ⟨bk0_W1, bk1_W1⟩ := box2D w 26 (.slice a n c) (.int .i64 N)
        have bkF_W1 : ∀ o, (w.alloc (.cells #[.slice a n c, .int .i64 N] 26)).frozen? ⟨w.heap.size, o, none⟩ = false := fun o => by simp [go_sem]
        have bkL_W1 : w.heap.size < (w.alloc (.cells #[.slice a n c, .int .i64 N] 26)).heap.size := by simp
        have ab_W1 := alloc_below w (.cells #[.slice a n c, .int .i64 N] 26)
        have as_W1 : Hid ((w.alloc (.cells #[.slice a n c, .int .i64 N] 26)).heap.size = w.heap.size + 1) := hidP (by simp)
        generalize w.alloc (.cells #[.slice a n c, .int .i64 N] 26) = W1 at *
        have acc_W1 := hidP (ab_W1)
        have sz_W1 : Hid (w.heap.size ≤ W1.heap.size) := hidP ab_W1.size
        clear ab_W1 
        obtain ⟨rs0_W2, rs1_W2⟩ := box2D W1 26 (.slice none 0 0) (.int .i64 0)
        have rsF_W2 : ∀ o, (W1.alloc (.cells #[.slice none 0 0, .int .i64 0] 26)).frozen? ⟨W1.heap.size, o, none⟩ = false := fun o => by simp [go_sem]
        have rsL_W2 : W1.heap.size < (W1.alloc (.cells #[.slice none 0 0, .int .i64 0] 26)).heap.size := by simp
        have ab_W2 := alloc_below W1 (.cells #[.slice none 0 0, .int .i64 0] 26)
        have as_W2 : Hid ((W1.alloc (.cells #[.slice none 0 0, .int .i64 0] 26)).heap.size = W1.heap.size + 1) := hidP (by simp)
        generalize W1.alloc (.cells #[.slice none 0 0, .int .i64 0] 26) = W2 at *
        have bk0_W2 := (ab_W2.cell bkL_W1).trans bk0_W1
        have bk1_W2 := (ab_W2.cell bkL_W1).trans bk1_W1
        have bkF_W2 : ∀ o, W2.frozen? ⟨w.heap.size, o, none⟩ = false := fun o => (ab_W2.frozen bkL_W1).trans (bkF_W1 o)
        have bkL_W2 : w.heap.size < W2.heap.size := Nat.lt_of_lt_of_le bkL_W1 ab_W2.size
        have acc_W2 := hidP (acc_W1.out.trans (ab_W2.mono acc_W1.out.size))
        have sz_W2 : Hid (W1.heap.size ≤ W2.heap.size) := hidP ab_W2.size
        clear ab_W2 bk0_W1 bk1_W1 bkF_W1 bkL_W1 acc_W1
        rw [as_W1.out] at rs0_W2 rs1_W2 rsL_W2
        have rsF_W2' : ∀ o, W2.frozen? ⟨w.heap.size + 1, o, none⟩ = false := fun o => by have := rsF_W2 o; rw [as_W1.out] at this; exact this
        clear rsF_W2
        have rsF_W2 := rsF_W2'
        clear rsF_W2'
        refine (HCp.out _ acc_W2.out).mono ?_
        rintro e w3 ⟨a3, c3, rfl, og3, hb3⟩
        have OG := hidP og3
        clear og3
        have bk0_w3 := (hb3.cell bkL_W2).trans bk0_W2
        have bk1_w3 := (hb3.cell bkL_W2).trans bk1_W2
        have bkF_w3 : ∀ o, w3.frozen? ⟨w.heap.size, o, none⟩ = false := fun o => (hb3.frozen bkL_W2).trans (bkF_W2 o)
        have bkL_w3 : w.heap.size < w3.heap.size := Nat.lt_of_lt_of_le bkL_W2 hb3.size
        have rs0_w3 := (hb3.cell rsL_W2).trans rs0_W2
        have rs1_w3 := (hb3.cell rsL_W2).trans rs1_W2
        have rsF_w3 : ∀ o, w3.frozen? ⟨w.heap.size + 1, o, none⟩ = false := fun o => (hb3.frozen rsL_W2).trans (rsF_W2 o)
        have rsL_w3 : w.heap.size + 1 < w3.heap.size := Nat.lt_of_lt_of_le rsL_W2 hb3.size
        have acc_w3 := hidP (acc_W2.out.trans (hb3.mono acc_W2.out.size))
        have sz_w3 : Hid (W2.heap.size ≤ w3.heap.size) := hidP hb3.size
        clear hb3 bk0_W2 bk1_W2 bkF_W2 bkL_W2 rs0_W2 rs1_W2 rsF_W2 rsL_W2 acc_W2
        have oL_w3 := hidP (OG.out)
        have lhL : Hid (∀ k, (Value.slice a3 n c3).ownBlock = some k → W2.heap.size ≤ k ∧ k < w3.heap.size) := hidP (fun k hk => OwnG.lt oL_w3.out k hk)
        clear OG
        go_wp2_with fail
        obtain ⟨ou0_W4, ou1_W4⟩ := box2D w3 26 (.slice a3 n c3) (.int .i64 N)
        have ouF_W4 : ∀ o, (w3.alloc (.cells #[.slice a3 n c3, .int .i64 N] 26)).frozen? ⟨w3.heap.size, o, none⟩ = false := fun o => by simp [go_sem]
        have ouL_W4 : w3.heap.size < (w3.alloc (.cells #[.slice a3 n c3, .int .i64 N] 26)).heap.size := by simp
        have ab_W4 := alloc_below w3 (.cells #[.slice a3 n c3, .int .i64 N] 26)
        have as_W4 : Hid ((w3.alloc (.cells #[.slice a3 n c3, .int .i64 N] 26)).heap.size = w3.heap.size + 1) := hidP (by simp)
        generalize w3.alloc (.cells #[.slice a3 n c3, .int .i64 N] 26) = W4 at *
        have bk0_W4 := (ab_W4.cell bkL_w3).trans bk0_w3
        have bk1_W4 := (ab_W4.cell bkL_w3).trans bk1_w3
        have bkF_W4 : ∀ o, W4.frozen? ⟨w.heap.size, o, none⟩ = false := fun o => (ab_W4.frozen bkL_w3).trans (bkF_w3 o)
        have bkL_W4 : w.heap.size < W4.heap.size := Nat.lt_of_lt_of_le bkL_w3 ab_W4.size
        have rs0_W4 := (ab_W4.cell rsL_w3).trans rs0_w3
        have rs1_W4 := (ab_W4.cell rsL_w3).trans rs1_w3
        have rsF_W4 : ∀ o, W4.frozen? ⟨w.heap.size + 1, o, none⟩ = false := fun o => (ab_W4.frozen rsL_w3).trans (rsF_w3 o)
        have rsL_W4 : w.heap.size + 1 < W4.heap.size := Nat.lt_of_lt_of_le rsL_w3 ab_W4.size
        have oL_W4 := hidP (OwnG.later oL_w3.out ab_W4)
        have acc_W4 := hidP (acc_w3.out.trans (ab_W4.mono acc_w3.out.size))
        have sz_W4 : Hid (w3.heap.size ≤ W4.heap.size) := hidP ab_W4.size
        clear ab_W4 bk0_w3 bk1_w3 bkF_w3 bkL_w3 rs0_w3 rs1_w3 rsF_w3 rsL_w3 oL_w3 acc_w3
        refine (HAs.out _ acc_W4.out).mono ?_
        rintro e w5 ⟨rfl, hb5⟩
        have bk0_w5 := (hb5.cell bkL_W4).trans bk0_W4
        have bk1_w5 := (hb5.cell bkL_W4).trans bk1_W4
        have bkF_w5 : ∀ o, w5.frozen? ⟨w.heap.size, o, none⟩ = false := fun o => (hb5.frozen bkL_W4).trans (bkF_W4 o)
        have bkL_w5 : w.heap.size < w5.heap.size := Nat.lt_of_lt_of_le bkL_W4 hb5.size
        have rs0_w5 := (hb5.cell rsL_W4).trans rs0_W4
        have rs1_w5 := (hb5.cell rsL_W4).trans rs1_W4
        have rsF_w5 : ∀ o, w5.frozen? ⟨w.heap.size + 1, o, none⟩ = false := fun o => (hb5.frozen rsL_W4).trans (rsF_W4 o)
        have rsL_w5 : w.heap.size + 1 < w5.heap.size := Nat.lt_of_lt_of_le rsL_W4 hb5.size
        have ou0_w5 := (hb5.cell ouL_W4).trans ou0_W4
        have ou1_w5 := (hb5.cell ouL_W4).trans ou1_W4
        have ouF_w5 : ∀ o, w5.frozen? ⟨w3.heap.size, o, none⟩ = false := fun o => (hb5.frozen ouL_W4).trans (ouF_W4 o)
        have ouL_w5 : w3.heap.size < w5.heap.size := Nat.lt_of_lt_of_le ouL_W4 hb5.size
        have oL_w5 := hidP (OwnG.later oL_W4.out hb5)
        have acc_w5 := hidP (acc_W4.out.trans (hb5.mono acc_W4.out.size))
        have sz_w5 : Hid (W4.heap.size ≤ w5.heap.size) := hidP hb5.size
        clear hb5 bk0_W4 bk1_W4 bkF_W4 bkL_W4 rs0_W4 rs1_W4 rsF_W4 rsL_W4 ou0_W4 ou1_W4 ouF_W4 ouL_W4 oL_W4 acc_W4
        go_wp2_with fail
        refine (HT.out _).mono ?_
        rintro e w6 ⟨rfl, hw6⟩
        rw [hw6]
        clear hw6 w6
        go_wp2_with fail
        refine bodyPost_ret (v := .tuple #[.agg #[.slice a3 n c3, .int .i64 N], .bool false]) (by simp [results, Try.results8, go_sem, rs0_w5, rs1_w5]) rfl ⟨_, _, rfl, ?_, ?_⟩
        · refine OwnG.mono (B := W2.heap.size) ?_ (by have := as_W1.out; have := sz_W1.out; have := as_W2.out; have := sz_W2.out; have := sz_w3.out; have := as_W4.out; have := sz_W4.out; have := sz_w5.out; omega)
          iterate 2 (with_reducible refine OwnG.grown ?_ (grown_cellG _ _ _ _) ?_; rotate_left; (focus (first | exact OwnG.ne_of oL_w5.out (by have := as_W1.out; have := sz_W1.out; have := as_W2.out; have := sz_W2.out; have := sz_w3.out; have := as_W4.out; have := sz_W4.out; have := sz_w5.out; omega))))
          with_reducible exact oL_w5.out
        · repeat (with_reducible refine Below.setCell ?_ ?_ _; rotate_left; (focus (first | (simp; done) | (simp; omega) | (dsimp only; have := as_W1.out; have := sz_W1.out; have := as_W2.out; have := sz_W2.out; have := sz_w3.out; have := as_W4.out; have := sz_W4.out; have := sz_w5.out; omega))))
          exact acc_w5.out
    · clear hr
      go_enter Try.func8, Try.ntmps8
      go_wp2_with fail
      obtain ⟨bk0_W1, bk1_W1⟩ := box2D w 26 (.slice a n c) (.int .i64 N)
      have bkF_W1 : ∀ o, (w.alloc (.cells #[.slice a n c, .int .i64 N] 26)).frozen? ⟨w.heap.size, o, none⟩ = false := fun o => by simp [go_sem]
      have bkL_W1 : w.heap.size < (w.alloc (.cells #[.slice a n c, .int .i64 N] 26)).heap.size := by simp
      have ab_W1 := alloc_below w (.cells #[.slice a n c, .int .i64 N] 26)
      have as_W1 : Hid ((w.alloc (.cells #[.slice a n c, .int .i64 N] 26)).heap.size = w.heap.size + 1) := hidP (by simp)
      generalize w.alloc (.cells #[.slice a n c, .int .i64 N] 26) = W1 at *
      have acc_W1 := hidP (ab_W1)
      have sz_W1 : Hid (w.heap.size ≤ W1.heap.size) := hidP ab_W1.size
      clear ab_W1 
      obtain ⟨rs0_W2, rs1_W2⟩ := box2D W1 26 (.slice none 0 0) (.int .i64 0)
      have rsF_W2 : ∀ o, (W1.alloc (.cells #[.slice none 0 0, .int .i64 0] 26)).frozen? ⟨W1.heap.size, o, none⟩ = false := fun o => by simp [go_sem]
      have rsL_W2 : W1.heap.size < (W1.alloc (.cells #[.slice none 0 0, .int .i64 0] 26)).heap.size := by simp
      have ab_W2 := alloc_below W1 (.cells #[.slice none 0 0, .int .i64 0] 26)
      have as_W2 : Hid ((W1.alloc (.cells #[.slice none 0 0, .int .i64 0] 26)).heap.size = W1.heap.size + 1) := hidP (by simp)
      generalize W1.alloc (.cells #[.slice none 0 0, .int .i64 0] 26) = W2 at *
      have bk0_W2 := (ab_W2.cell bkL_W1).trans bk0_W1
      have bk1_W2 := (ab_W2.cell bkL_W1).trans bk1_W1
      have bkF_W2 : ∀ o, W2.frozen? ⟨w.heap.size, o, none⟩ = false := fun o => (ab_W2.frozen bkL_W1).trans (bkF_W1 o)
      have bkL_W2 : w.heap.size < W2.heap.size := Nat.lt_of_lt_of_le bkL_W1 ab_W2.size
      have acc_W2 := hidP (acc_W1.out.trans (ab_W2.mono acc_W1.out.size))
      have sz_W2 : Hid (W1.heap.size ≤ W2.heap.size) := hidP ab_W2.size
      clear ab_W2 bk0_W1 bk1_W1 bkF_W1 bkL_W1 acc_W1
      rw [as_W1.out] at rs0_W2 rs1_W2 rsL_W2
      have rsF_W2' : ∀ o, W2.frozen? ⟨w.heap.size + 1, o, none⟩ = false := fun o => by have := rsF_W2 o; rw [as_W1.out] at this; exact this
      clear rsF_W2
      have rsF_W2 := rsF_W2'
      clear rsF_W2'
      refine (HCp.out _ acc_W2.out).mono ?_
      rintro e w3 ⟨a3, c3, rfl, og3, hb3⟩
      have OG := hidP og3
      clear og3
      have bk0_w3 := (hb3.cell bkL_W2).trans bk0_W2
      have bk1_w3 := (hb3.cell bkL_W2).trans bk1_W2
      have bkF_w3 : ∀ o, w3.frozen? ⟨w.heap.size, o, none⟩ = false := fun o => (hb3.frozen bkL_W2).trans (bkF_W2 o)
      have bkL_w3 : w.heap.size < w3.heap.size := Nat.lt_of_lt_of_le bkL_W2 hb3.size
      have rs0_w3 := (hb3.cell rsL_W2).trans rs0_W2
      have rs1_w3 := (hb3.cell rsL_W2).trans rs1_W2
      have rsF_w3 : ∀ o, w3.frozen? ⟨w.heap.size + 1, o, none⟩ = false := fun o => (hb3.frozen rsL_W2).trans (rsF_W2 o)
      have rsL_w3 : w.heap.size + 1 < w3.heap.size := Nat.lt_of_lt_of_le rsL_W2 hb3.size
      have acc_w3 := hidP (acc_W2.out.trans (hb3.mono acc_W2.out.size))
      have sz_w3 : Hid (W2.heap.size ≤ w3.heap.size) := hidP hb3.size
      clear hb3 bk0_W2 bk1_W2 bkF_W2 bkL_W2 rs0_W2 rs1_W2 rsF_W2 rsL_W2 acc_W2
      have oL_w3 := hidP (OG.out)
      have lhL : Hid (∀ k, (Value.slice a3 n c3).ownBlock = some k → W2.heap.size ≤ k ∧ k < w3.heap.size) := hidP (fun k hk => OwnG.lt oL_w3.out k hk)
      clear OG
      go_wp2_with fail
      obtain ⟨ou0_W4, ou1_W4⟩ := box2D w3 26 (.slice a3 n c3) (.int .i64 N)
      have ouF_W4 : ∀ o, (w3.alloc (.cells #[.slice a3 n c3, .int .i64 N] 26)).frozen? ⟨w3.heap.size, o, none⟩ = false := fun o => by simp [go_sem]
      have ouL_W4 : w3.heap.size < (w3.alloc (.cells #[.slice a3 n c3, .int .i64 N] 26)).heap.size := by simp
      have ab_W4 := alloc_below w3 (.cells #[.slice a3 n c3, .int .i64 N] 26)
      have as_W4 : Hid ((w3.alloc (.cells #[.slice a3 n c3, .int .i64 N] 26)).heap.size = w3.heap.size + 1) := hidP (by simp)
      generalize w3.alloc (.cells #[.slice a3 n c3, .int .i64 N] 26) = W4 at *
      have bk0_W4 := (ab_W4.cell bkL_w3).trans bk0_w3
      have bk1_W4 := (ab_W4.cell bkL_w3).trans bk1_w3
      have bkF_W4 : ∀ o, W4.frozen? ⟨w.heap.size, o, none⟩ = false := fun o => (ab_W4.frozen bkL_w3).trans (bkF_w3 o)
      have bkL_W4 : w.heap.size < W4.heap.size := Nat.lt_of_lt_of_le bkL_w3 ab_W4.size
      have rs0_W4 := (ab_W4.cell rsL_w3).trans rs0_w3
      have rs1_W4 := (ab_W4.cell rsL_w3).trans rs1_w3
      have rsF_W4 : ∀ o, W4.frozen? ⟨w.heap.size + 1, o, none⟩ = false := fun o => (ab_W4.frozen rsL_w3).trans (rsF_w3 o)
      have rsL_W4 : w.heap.size + 1 < W4.heap.size := Nat.lt_of_lt_of_le rsL_w3 ab_W4.size
      have oL_W4 := hidP (OwnG.later oL_w3.out ab_W4)
      have acc_W4 := hidP (acc_w3.out.trans (ab_W4.mono acc_w3.out.size))
      have sz_W4 : Hid (w3.heap.size ≤ W4.heap.size) := hidP ab_W4.size
      clear ab_W4 bk0_w3 bk1_w3 bkF_w3 bkL_w3 rs0_w3 rs1_w3 rsF_w3 rsL_w3 oL_w3 acc_w3
      refine (HAs.out _ acc_W4.out).mono ?_
      rintro e w5 ⟨rfl, hb5⟩
      have bk0_w5 := (hb5.cell bkL_W4).trans bk0_W4
      have bk1_w5 := (hb5.cell bkL_W4).trans bk1_W4
      have bkF_w5 : ∀ o, w5.frozen? ⟨w.heap.size, o, none⟩ = false := fun o => (hb5.frozen bkL_W4).trans (bkF_W4 o)
      have bkL_w5 : w.heap.size < w5.heap.size := Nat.lt_of_lt_of_le bkL_W4 hb5.size
      have rs0_w5 := (hb5.cell rsL_W4).trans rs0_W4
      have rs1_w5 := (hb5.cell rsL_W4).trans rs1_W4
      have rsF_w5 : ∀ o, w5.frozen? ⟨w.heap.size + 1, o, none⟩ = false := fun o => (hb5.frozen rsL_W4).trans (rsF_W4 o)
      have rsL_w5 : w.heap.size + 1 < w5.heap.size := Nat.lt_of_lt_of_le rsL_W4 hb5.size
      have ou0_w5 := (hb5.cell ouL_W4).trans ou0_W4
      have ou1_w5 := (hb5.cell ouL_W4).trans ou1_W4
      have ouF_w5 : ∀ o, w5.frozen? ⟨w3.heap.size, o, none⟩ = false := fun o => (hb5.frozen ouL_W4).trans (ouF_W4 o)
      have ouL_w5 : w3.heap.size < w5.heap.size := Nat.lt_of_lt_of_le ouL_W4 hb5.size
      have oL_w5 := hidP (OwnG.later oL_W4.out hb5)
      have acc_w5 := hidP (acc_W4.out.trans (hb5.mono acc_W4.out.size))
      have sz_w5 : Hid (W4.heap.size ≤ w5.heap.size) := hidP hb5.size
      clear hb5 bk0_W4 bk1_W4 bkF_W4 bkL_W4 rs0_W4 rs1_W4 rsF_W4 rsL_W4 ou0_W4 ou1_W4 ouF_W4 ouL_W4 oL_W4 acc_W4
      go_wp2_with fail
      refine bodyPost_ret (v := .tuple #[.agg #[.slice a3 n c3, .int .i64 N], .bool false]) (by simp [results, Try.results8, go_sem, rs0_w5, rs1_w5]) rfl ⟨_, _, rfl, ?_, ?_⟩
      · refine OwnG.mono (B := W2.heap.size) ?_ (by have := as_W1.out; have := sz_W1.out; have := as_W2.out; have := sz_W2.out; have := sz_w3.out; have := as_W4.out; have := sz_W4.out; have := sz_w5.out; omega)
        iterate 2 (with_reducible refine OwnG.grown ?_ (grown_cellG _ _ _ _) ?_; rotate_left; (focus (first | exact OwnG.ne_of oL_w5.out (by have := as_W1.out; have := sz_W1.out; have := as_W2.out; have := sz_W2.out; have := sz_w3.out; have := as_W4.out; have := sz_W4.out; have := sz_w5.out; omega))))
        with_reducible exact oL_w5.out
      · repeat (with_reducible refine Below.setCell ?_ ?_ _; rotate_left; (focus (first | (simp; done) | (simp; omega) | (dsimp only; have := as_W1.out; have := sz_W1.out; have := as_W2.out; have := sz_W2.out; have := sz_w3.out; have := as_W4.out; have := sz_W4.out; have := sz_w5.out; omega))))
        exact acc_w5.out

set_option maxRecDepth 10000 in
set_option maxHeartbeats 4000000 in
theorem sAn_yes (a : Option Addr) (n c : Nat) (N : Int) (ls : List Ss) (w : World) (hn : n = ls.length) (hB : RowG KSs w a ls) (hc : a = none → c = 0) (hl : n ≤ 1048576) (id s : Int) (rp : ByteArray) (u : Int) (C : Int) (T : ByteArray) (HA : ∀ (a : Option Addr) (c : Nat) (w : World), RowG KSs w a ls → Calls Try.prog 30 #[.agg #[.slice a n c, .int .i64 N], .int .i64 id, .int .i64 s] w fun e w' => e = .returned (.tuple #[.int .i64 C, .string T]) ∧ Below w.heap.size w w') (hr : ((((C == 0) && decide (s ≤ 1000000)) && decide ((rp.size : Int) ≤ 200)) && tmB u) = true) (I : Nat) (hf : findS id ls = some I) (q : Ss) (hq : ls[I]? = some q) :
    Calls Try.prog 8 #[.agg #[.slice a n c, .int .i64 N], .int .i64 id, .int .i64 s, .string rp, .int .i64 u] w fun e w' => ∃ a' c', e = .returned (.tuple #[.agg #[.slice a' n c', .int .i64 N], .bool true]) ∧ OwnG KSs 39 w' w.heap.size (.slice a' n c') (ls.set I (⟨q.i, s, rp, max q.u u⟩ : Ss)) ∧ Below w.heap.size w w' := by
  have HCp := hidP (fun W h => l7Copy_any a n c N ls W hn (hB.later h) hc hl)
  have HAs := hidP (fun W h => HA a c W (hB.later h))
  have HT := hidP (l1In7_any u 0 1000000000)
  have HF := hidP (fun W h => l7Find_any a n c N ls W hn (hB.later h) hl id)
  rw [fxS_some hf] at HF
  have hI : I < n := by rw [hn]; exact (List.getElem?_eq_some_iff.1 hq).1
  have hIi : (I : Int) < (n : Int) := by omega
  have hI0 : (0 : Int) ≤ (I : Int) := by omega
  have HI : Hid (I < ls.length) := hidP (List.getElem?_eq_some_iff.1 hq).1
  have HQ := hidP hq
  simp only [Bool.and_eq_true] at hr
  obtain ⟨⟨⟨h1, h2⟩, h3⟩, h4⟩ := hr
  have h1n : (C != 0) = false := by simp only [bne, h1]; rfl
  have g2 : decide ((1000000 : Int) < s) = false := decide_eq_false (by have := of_decide_eq_true h2; omega)
  have g3 : decide ((200 : Int) < (rp.size : Int)) = false := decide_eq_false (by have := of_decide_eq_true h3; omega)
  have h4' : (decide (0 ≤ u) && decide (u ≤ 1000000000)) = true := h4
  rw [h4'] at HT
  clear hB hn hc HA h2 h3 h4 h4' hf hq
  by_cases hu : q.u < u
  · go_enter Try.func8, Try.ntmps8
    go_wp2_with fail
    obtain ⟨bk0_W1, bk1_W1⟩ := box2D w 26 (.slice a n c) (.int .i64 N)
    have bkF_W1 : ∀ o, (w.alloc (.cells #[.slice a n c, .int .i64 N] 26)).frozen? ⟨w.heap.size, o, none⟩ = false := fun o => by simp [go_sem]
    have bkL_W1 : w.heap.size < (w.alloc (.cells #[.slice a n c, .int .i64 N] 26)).heap.size := by simp
    have ab_W1 := alloc_below w (.cells #[.slice a n c, .int .i64 N] 26)
    have as_W1 : Hid ((w.alloc (.cells #[.slice a n c, .int .i64 N] 26)).heap.size = w.heap.size + 1) := hidP (by simp)
    generalize w.alloc (.cells #[.slice a n c, .int .i64 N] 26) = W1 at *
    have acc_W1 := hidP (ab_W1)
    have sz_W1 : Hid (w.heap.size ≤ W1.heap.size) := hidP ab_W1.size
    clear ab_W1 
    obtain ⟨rs0_W2, rs1_W2⟩ := box2D W1 26 (.slice none 0 0) (.int .i64 0)
    have rsF_W2 : ∀ o, (W1.alloc (.cells #[.slice none 0 0, .int .i64 0] 26)).frozen? ⟨W1.heap.size, o, none⟩ = false := fun o => by simp [go_sem]
    have rsL_W2 : W1.heap.size < (W1.alloc (.cells #[.slice none 0 0, .int .i64 0] 26)).heap.size := by simp
    have ab_W2 := alloc_below W1 (.cells #[.slice none 0 0, .int .i64 0] 26)
    have as_W2 : Hid ((W1.alloc (.cells #[.slice none 0 0, .int .i64 0] 26)).heap.size = W1.heap.size + 1) := hidP (by simp)
    generalize W1.alloc (.cells #[.slice none 0 0, .int .i64 0] 26) = W2 at *
    have bk0_W2 := (ab_W2.cell bkL_W1).trans bk0_W1
    have bk1_W2 := (ab_W2.cell bkL_W1).trans bk1_W1
    have bkF_W2 : ∀ o, W2.frozen? ⟨w.heap.size, o, none⟩ = false := fun o => (ab_W2.frozen bkL_W1).trans (bkF_W1 o)
    have bkL_W2 : w.heap.size < W2.heap.size := Nat.lt_of_lt_of_le bkL_W1 ab_W2.size
    have acc_W2 := hidP (acc_W1.out.trans (ab_W2.mono acc_W1.out.size))
    have sz_W2 : Hid (W1.heap.size ≤ W2.heap.size) := hidP ab_W2.size
    clear ab_W2 bk0_W1 bk1_W1 bkF_W1 bkL_W1 acc_W1
    rw [as_W1.out] at rs0_W2 rs1_W2 rsL_W2
    have rsF_W2' : ∀ o, W2.frozen? ⟨w.heap.size + 1, o, none⟩ = false := fun o => by have := rsF_W2 o; rw [as_W1.out] at this; exact this
    clear rsF_W2
    have rsF_W2 := rsF_W2'
    clear rsF_W2'
    refine (HCp.out _ acc_W2.out).mono ?_
    rintro e w3 ⟨a3, c3, rfl, og3, hb3⟩
    have OG := hidP og3
    clear og3
    have bk0_w3 := (hb3.cell bkL_W2).trans bk0_W2
    have bk1_w3 := (hb3.cell bkL_W2).trans bk1_W2
    have bkF_w3 : ∀ o, w3.frozen? ⟨w.heap.size, o, none⟩ = false := fun o => (hb3.frozen bkL_W2).trans (bkF_W2 o)
    have bkL_w3 : w.heap.size < w3.heap.size := Nat.lt_of_lt_of_le bkL_W2 hb3.size
    have rs0_w3 := (hb3.cell rsL_W2).trans rs0_W2
    have rs1_w3 := (hb3.cell rsL_W2).trans rs1_W2
    have rsF_w3 : ∀ o, w3.frozen? ⟨w.heap.size + 1, o, none⟩ = false := fun o => (hb3.frozen rsL_W2).trans (rsF_W2 o)
    have rsL_w3 : w.heap.size + 1 < w3.heap.size := Nat.lt_of_lt_of_le rsL_W2 hb3.size
    have acc_w3 := hidP (acc_W2.out.trans (hb3.mono acc_W2.out.size))
    have sz_w3 : Hid (W2.heap.size ≤ w3.heap.size) := hidP hb3.size
    clear hb3 bk0_W2 bk1_W2 bkF_W2 bkL_W2 rs0_W2 rs1_W2 rsF_W2 rsL_W2 acc_W2
    have oL_w3 := hidP (OG.out)
    have lhL : Hid (∀ k, (Value.slice a3 n c3).ownBlock = some k → W2.heap.size ≤ k ∧ k < w3.heap.size) := hidP (fun k hk => OwnG.lt oL_w3.out k hk)
    clear OG
    go_wp2_with fail
    obtain ⟨ou0_W4, ou1_W4⟩ := box2D w3 26 (.slice a3 n c3) (.int .i64 N)
    have ouF_W4 : ∀ o, (w3.alloc (.cells #[.slice a3 n c3, .int .i64 N] 26)).frozen? ⟨w3.heap.size, o, none⟩ = false := fun o => by simp [go_sem]
    have ouL_W4 : w3.heap.size < (w3.alloc (.cells #[.slice a3 n c3, .int .i64 N] 26)).heap.size := by simp
    have ab_W4 := alloc_below w3 (.cells #[.slice a3 n c3, .int .i64 N] 26)
    have as_W4 : Hid ((w3.alloc (.cells #[.slice a3 n c3, .int .i64 N] 26)).heap.size = w3.heap.size + 1) := hidP (by simp)
    generalize w3.alloc (.cells #[.slice a3 n c3, .int .i64 N] 26) = W4 at *
    have bk0_W4 := (ab_W4.cell bkL_w3).trans bk0_w3
    have bk1_W4 := (ab_W4.cell bkL_w3).trans bk1_w3
    have bkF_W4 : ∀ o, W4.frozen? ⟨w.heap.size, o, none⟩ = false := fun o => (ab_W4.frozen bkL_w3).trans (bkF_w3 o)
    have bkL_W4 : w.heap.size < W4.heap.size := Nat.lt_of_lt_of_le bkL_w3 ab_W4.size
    have rs0_W4 := (ab_W4.cell rsL_w3).trans rs0_w3
    have rs1_W4 := (ab_W4.cell rsL_w3).trans rs1_w3
    have rsF_W4 : ∀ o, W4.frozen? ⟨w.heap.size + 1, o, none⟩ = false := fun o => (ab_W4.frozen rsL_w3).trans (rsF_w3 o)
    have rsL_W4 : w.heap.size + 1 < W4.heap.size := Nat.lt_of_lt_of_le rsL_w3 ab_W4.size
    have oL_W4 := hidP (OwnG.later oL_w3.out ab_W4)
    have acc_W4 := hidP (acc_w3.out.trans (ab_W4.mono acc_w3.out.size))
    have sz_W4 : Hid (w3.heap.size ≤ W4.heap.size) := hidP ab_W4.size
    clear ab_W4 bk0_w3 bk1_w3 bkF_w3 bkL_w3 rs0_w3 rs1_w3 rsF_w3 rsL_w3 oL_w3 acc_w3
    refine (HAs.out _ acc_W4.out).mono ?_
    rintro e w5 ⟨rfl, hb5⟩
    have bk0_w5 := (hb5.cell bkL_W4).trans bk0_W4
    have bk1_w5 := (hb5.cell bkL_W4).trans bk1_W4
    have bkF_w5 : ∀ o, w5.frozen? ⟨w.heap.size, o, none⟩ = false := fun o => (hb5.frozen bkL_W4).trans (bkF_W4 o)
    have bkL_w5 : w.heap.size < w5.heap.size := Nat.lt_of_lt_of_le bkL_W4 hb5.size
    have rs0_w5 := (hb5.cell rsL_W4).trans rs0_W4
    have rs1_w5 := (hb5.cell rsL_W4).trans rs1_W4
    have rsF_w5 : ∀ o, w5.frozen? ⟨w.heap.size + 1, o, none⟩ = false := fun o => (hb5.frozen rsL_W4).trans (rsF_W4 o)
    have rsL_w5 : w.heap.size + 1 < w5.heap.size := Nat.lt_of_lt_of_le rsL_W4 hb5.size
    have ou0_w5 := (hb5.cell ouL_W4).trans ou0_W4
    have ou1_w5 := (hb5.cell ouL_W4).trans ou1_W4
    have ouF_w5 : ∀ o, w5.frozen? ⟨w3.heap.size, o, none⟩ = false := fun o => (hb5.frozen ouL_W4).trans (ouF_W4 o)
    have ouL_w5 : w3.heap.size < w5.heap.size := Nat.lt_of_lt_of_le ouL_W4 hb5.size
    have oL_w5 := hidP (OwnG.later oL_W4.out hb5)
    have acc_w5 := hidP (acc_W4.out.trans (hb5.mono acc_W4.out.size))
    have sz_w5 : Hid (W4.heap.size ≤ w5.heap.size) := hidP hb5.size
    clear hb5 bk0_W4 bk1_W4 bkF_W4 bkL_W4 rs0_W4 rs1_W4 rsF_W4 rsL_W4 ou0_W4 ou1_W4 ouF_W4 ouL_W4 oL_W4 acc_W4
    go_wp2_with fail
    refine (HT.out _).mono ?_
    rintro e w6 ⟨rfl, hw6⟩
    rw [hw6]
    clear hw6 w6
    go_wp2_with fail
    refine (HF.out _ acc_w5.out).mono ?_
    rintro e w7 ⟨rfl, hb7⟩
    have bk0_w7 := (hb7.cell bkL_w5).trans bk0_w5
    have bk1_w7 := (hb7.cell bkL_w5).trans bk1_w5
    have bkF_w7 : ∀ o, w7.frozen? ⟨w.heap.size, o, none⟩ = false := fun o => (hb7.frozen bkL_w5).trans (bkF_w5 o)
    have bkL_w7 : w.heap.size < w7.heap.size := Nat.lt_of_lt_of_le bkL_w5 hb7.size
    have rs0_w7 := (hb7.cell rsL_w5).trans rs0_w5
    have rs1_w7 := (hb7.cell rsL_w5).trans rs1_w5
    have rsF_w7 : ∀ o, w7.frozen? ⟨w.heap.size + 1, o, none⟩ = false := fun o => (hb7.frozen rsL_w5).trans (rsF_w5 o)
    have rsL_w7 : w.heap.size + 1 < w7.heap.size := Nat.lt_of_lt_of_le rsL_w5 hb7.size
    have ou0_w7 := (hb7.cell ouL_w5).trans ou0_w5
    have ou1_w7 := (hb7.cell ouL_w5).trans ou1_w5
    have ouF_w7 : ∀ o, w7.frozen? ⟨w3.heap.size, o, none⟩ = false := fun o => (hb7.frozen ouL_w5).trans (ouF_w5 o)
    have ouL_w7 : w3.heap.size < w7.heap.size := Nat.lt_of_lt_of_le ouL_w5 hb7.size
    have oL_w7 := hidP (OwnG.later oL_w5.out hb7)
    have acc_w7 := hidP (acc_w5.out.trans (hb7.mono acc_w5.out.size))
    have sz_w7 : Hid (w5.heap.size ≤ w7.heap.size) := hidP hb7.size
    clear hb7 bk0_w5 bk1_w5 bkF_w5 bkL_w5 rs0_w5 rs1_w5 rsF_w5 rsL_w5 ou0_w5 ou1_w5 ouF_w5 ouL_w5 oL_w5 acc_w5
    obtain ⟨gg, rfl⟩ := own_some oL_w7.out (by omega)
    obtain ⟨q', hgl, hq', e0, e1, e2, e3⟩ := rowSs0 oL_w7.out I HI.out
    rw [HQ.out] at hq'
    cases hq'
    obtain ⟨f0, f1, f2, f3⟩ := frzSs oL_w7.out I
    have lgg := lhL.out gg rfl
    have nA0 : ¬ (gg = w.heap.size) := (by have := as_W1.out; have := sz_W1.out; have := as_W2.out; have := sz_W2.out; have := sz_w3.out; have := as_W4.out; have := sz_W4.out; have := sz_w5.out; have := sz_w7.out; omega)
    have nB0 : ¬ (w.heap.size = gg) := (by have := as_W1.out; have := sz_W1.out; have := as_W2.out; have := sz_W2.out; have := sz_w3.out; have := as_W4.out; have := sz_W4.out; have := sz_w5.out; have := sz_w7.out; omega)
    have nA1 : ¬ (gg = w.heap.size + 1) := (by have := as_W1.out; have := sz_W1.out; have := as_W2.out; have := sz_W2.out; have := sz_w3.out; have := as_W4.out; have := sz_W4.out; have := sz_w5.out; have := sz_w7.out; omega)
    have nB1 : ¬ (w.heap.size + 1 = gg) := (by have := as_W1.out; have := sz_W1.out; have := as_W2.out; have := sz_W2.out; have := sz_w3.out; have := as_W4.out; have := sz_W4.out; have := sz_w5.out; have := sz_w7.out; omega)
    have nA2 : ¬ (gg = w3.heap.size) := (by have := as_W1.out; have := sz_W1.out; have := as_W2.out; have := sz_W2.out; have := sz_w3.out; have := as_W4.out; have := sz_W4.out; have := sz_w5.out; have := sz_w7.out; omega)
    have nB2 : ¬ (w3.heap.size = gg) := (by have := as_W1.out; have := sz_W1.out; have := as_W2.out; have := sz_W2.out; have := sz_w3.out; have := as_W4.out; have := sz_W4.out; have := sz_w5.out; have := sz_w7.out; omega)
    have OM := hidP (own3 oL_w7.out I q s rp u HQ.out)
    have hg : w7.grownBy (((w7.setCell ⟨gg, I * 4 + 1, none⟩ (.int .i64 s)).setCell ⟨gg, I * 4 + 2, none⟩ (.string rp)).setCell ⟨gg, I * 4 + 3, none⟩ (.int .i64 u)) (Value.slice (some ⟨gg, 0, none⟩) n c3).ownBlock := ((grown_cellG _ gg _ _).trans (grown_cellG _ gg _ _)).trans (grown_cellG _ gg _ _)
    have HG := hidP hg
    clear hg
    have ou0s : (((w7.setCell ⟨gg, I * 4 + 1, none⟩ (.int .i64 s)).setCell ⟨gg, I * 4 + 2, none⟩ (.string rp)).setCell ⟨gg, I * 4 + 3, none⟩ (.int .i64 u)).cell? ⟨w3.heap.size, 0, none⟩ = some (.slice (some ⟨gg, 0, none⟩) n c3) := cell_set1 (cell_set1 (cell_set1 (ou0_w7) nB2) nB2) nB2
    have ou1s : (((w7.setCell ⟨gg, I * 4 + 1, none⟩ (.int .i64 s)).setCell ⟨gg, I * 4 + 2, none⟩ (.string rp)).setCell ⟨gg, I * 4 + 3, none⟩ (.int .i64 u)).cell? ⟨w3.heap.size, 1, none⟩ = some (.int .i64 N) := cell_set1 (cell_set1 (cell_set1 (ou1_w7) nB2) nB2) nB2
    have rs0s : (((w7.setCell ⟨gg, I * 4 + 1, none⟩ (.int .i64 s)).setCell ⟨gg, I * 4 + 2, none⟩ (.string rp)).setCell ⟨gg, I * 4 + 3, none⟩ (.int .i64 u)).cell? ⟨w.heap.size + 1, 0, none⟩ = some (.slice none 0 0) := cell_set1 (cell_set1 (cell_set1 (rs0_w7) nB1) nB1) nB1
    have rs1s : (((w7.setCell ⟨gg, I * 4 + 1, none⟩ (.int .i64 s)).setCell ⟨gg, I * 4 + 2, none⟩ (.string rp)).setCell ⟨gg, I * 4 + 3, none⟩ (.int .i64 u)).cell? ⟨w.heap.size + 1, 1, none⟩ = some (.int .i64 0) := cell_set1 (cell_set1 (cell_set1 (rs1_w7) nB1) nB1) nB1
    have HCs := hidP (And.intro ou0s (And.intro ou1s (And.intro rs0s rs1s)))
    clear ou0s ou1s rs0s rs1s
    go_wp2_with fail
    refine bodyPost_ret (v := .tuple #[.agg #[.slice (some ⟨gg, 0, none⟩) n c3, .int .i64 N], .bool true]) (by simp [results, Try.results8, go_sem, rs0_w7, rs1_w7]) rfl ⟨_, _, rfl, ?_, ?_⟩
    · rw [show max q.u u = u by omega]
      refine OwnG.mono (B := W2.heap.size) ?_ (by have := as_W1.out; have := sz_W1.out; have := as_W2.out; have := sz_W2.out; have := sz_w3.out; have := as_W4.out; have := sz_W4.out; have := sz_w5.out; have := sz_w7.out; omega)
      iterate 2 (with_reducible refine OwnG.grown ?_ (grown_cellG _ _ _ _) ?_; rotate_left; (focus (exact OwnG.ne_of OM.out (by have := as_W1.out; have := sz_W1.out; have := as_W2.out; have := sz_W2.out; have := sz_w3.out; have := as_W4.out; have := sz_W4.out; have := sz_w5.out; have := sz_w7.out; omega))))
      with_reducible exact OM.out
    · repeat (with_reducible refine Below.setCell ?_ ?_ _; rotate_left; (focus (first | (simp; done) | (simp; omega) | (dsimp only; have := as_W1.out; have := sz_W1.out; have := as_W2.out; have := sz_W2.out; have := sz_w3.out; have := as_W4.out; have := sz_W4.out; have := sz_w5.out; have := sz_w7.out; omega))))
      exact acc_w7.out
  · go_enter Try.func8, Try.ntmps8
    go_wp2_with fail
    obtain ⟨bk0_W1, bk1_W1⟩ := box2D w 26 (.slice a n c) (.int .i64 N)
    have bkF_W1 : ∀ o, (w.alloc (.cells #[.slice a n c, .int .i64 N] 26)).frozen? ⟨w.heap.size, o, none⟩ = false := fun o => by simp [go_sem]
    have bkL_W1 : w.heap.size < (w.alloc (.cells #[.slice a n c, .int .i64 N] 26)).heap.size := by simp
    have ab_W1 := alloc_below w (.cells #[.slice a n c, .int .i64 N] 26)
    have as_W1 : Hid ((w.alloc (.cells #[.slice a n c, .int .i64 N] 26)).heap.size = w.heap.size + 1) := hidP (by simp)
    generalize w.alloc (.cells #[.slice a n c, .int .i64 N] 26) = W1 at *
    have acc_W1 := hidP (ab_W1)
    have sz_W1 : Hid (w.heap.size ≤ W1.heap.size) := hidP ab_W1.size
    clear ab_W1 
    obtain ⟨rs0_W2, rs1_W2⟩ := box2D W1 26 (.slice none 0 0) (.int .i64 0)
    have rsF_W2 : ∀ o, (W1.alloc (.cells #[.slice none 0 0, .int .i64 0] 26)).frozen? ⟨W1.heap.size, o, none⟩ = false := fun o => by simp [go_sem]
    have rsL_W2 : W1.heap.size < (W1.alloc (.cells #[.slice none 0 0, .int .i64 0] 26)).heap.size := by simp
    have ab_W2 := alloc_below W1 (.cells #[.slice none 0 0, .int .i64 0] 26)
    have as_W2 : Hid ((W1.alloc (.cells #[.slice none 0 0, .int .i64 0] 26)).heap.size = W1.heap.size + 1) := hidP (by simp)
    generalize W1.alloc (.cells #[.slice none 0 0, .int .i64 0] 26) = W2 at *
    have bk0_W2 := (ab_W2.cell bkL_W1).trans bk0_W1
    have bk1_W2 := (ab_W2.cell bkL_W1).trans bk1_W1
    have bkF_W2 : ∀ o, W2.frozen? ⟨w.heap.size, o, none⟩ = false := fun o => (ab_W2.frozen bkL_W1).trans (bkF_W1 o)
    have bkL_W2 : w.heap.size < W2.heap.size := Nat.lt_of_lt_of_le bkL_W1 ab_W2.size
    have acc_W2 := hidP (acc_W1.out.trans (ab_W2.mono acc_W1.out.size))
    have sz_W2 : Hid (W1.heap.size ≤ W2.heap.size) := hidP ab_W2.size
    clear ab_W2 bk0_W1 bk1_W1 bkF_W1 bkL_W1 acc_W1
    rw [as_W1.out] at rs0_W2 rs1_W2 rsL_W2
    have rsF_W2' : ∀ o, W2.frozen? ⟨w.heap.size + 1, o, none⟩ = false := fun o => by have := rsF_W2 o; rw [as_W1.out] at this; exact this
    clear rsF_W2
    have rsF_W2 := rsF_W2'
    clear rsF_W2'
    refine (HCp.out _ acc_W2.out).mono ?_
    rintro e w3 ⟨a3, c3, rfl, og3, hb3⟩
    have OG := hidP og3
    clear og3
    have bk0_w3 := (hb3.cell bkL_W2).trans bk0_W2
    have bk1_w3 := (hb3.cell bkL_W2).trans bk1_W2
    have bkF_w3 : ∀ o, w3.frozen? ⟨w.heap.size, o, none⟩ = false := fun o => (hb3.frozen bkL_W2).trans (bkF_W2 o)
    have bkL_w3 : w.heap.size < w3.heap.size := Nat.lt_of_lt_of_le bkL_W2 hb3.size
    have rs0_w3 := (hb3.cell rsL_W2).trans rs0_W2
    have rs1_w3 := (hb3.cell rsL_W2).trans rs1_W2
    have rsF_w3 : ∀ o, w3.frozen? ⟨w.heap.size + 1, o, none⟩ = false := fun o => (hb3.frozen rsL_W2).trans (rsF_W2 o)
    have rsL_w3 : w.heap.size + 1 < w3.heap.size := Nat.lt_of_lt_of_le rsL_W2 hb3.size
    have acc_w3 := hidP (acc_W2.out.trans (hb3.mono acc_W2.out.size))
    have sz_w3 : Hid (W2.heap.size ≤ w3.heap.size) := hidP hb3.size
    clear hb3 bk0_W2 bk1_W2 bkF_W2 bkL_W2 rs0_W2 rs1_W2 rsF_W2 rsL_W2 acc_W2
    have oL_w3 := hidP (OG.out)
    have lhL : Hid (∀ k, (Value.slice a3 n c3).ownBlock = some k → W2.heap.size ≤ k ∧ k < w3.heap.size) := hidP (fun k hk => OwnG.lt oL_w3.out k hk)
    clear OG
    go_wp2_with fail
    obtain ⟨ou0_W4, ou1_W4⟩ := box2D w3 26 (.slice a3 n c3) (.int .i64 N)
    have ouF_W4 : ∀ o, (w3.alloc (.cells #[.slice a3 n c3, .int .i64 N] 26)).frozen? ⟨w3.heap.size, o, none⟩ = false := fun o => by simp [go_sem]
    have ouL_W4 : w3.heap.size < (w3.alloc (.cells #[.slice a3 n c3, .int .i64 N] 26)).heap.size := by simp
    have ab_W4 := alloc_below w3 (.cells #[.slice a3 n c3, .int .i64 N] 26)
    have as_W4 : Hid ((w3.alloc (.cells #[.slice a3 n c3, .int .i64 N] 26)).heap.size = w3.heap.size + 1) := hidP (by simp)
    generalize w3.alloc (.cells #[.slice a3 n c3, .int .i64 N] 26) = W4 at *
    have bk0_W4 := (ab_W4.cell bkL_w3).trans bk0_w3
    have bk1_W4 := (ab_W4.cell bkL_w3).trans bk1_w3
    have bkF_W4 : ∀ o, W4.frozen? ⟨w.heap.size, o, none⟩ = false := fun o => (ab_W4.frozen bkL_w3).trans (bkF_w3 o)
    have bkL_W4 : w.heap.size < W4.heap.size := Nat.lt_of_lt_of_le bkL_w3 ab_W4.size
    have rs0_W4 := (ab_W4.cell rsL_w3).trans rs0_w3
    have rs1_W4 := (ab_W4.cell rsL_w3).trans rs1_w3
    have rsF_W4 : ∀ o, W4.frozen? ⟨w.heap.size + 1, o, none⟩ = false := fun o => (ab_W4.frozen rsL_w3).trans (rsF_w3 o)
    have rsL_W4 : w.heap.size + 1 < W4.heap.size := Nat.lt_of_lt_of_le rsL_w3 ab_W4.size
    have oL_W4 := hidP (OwnG.later oL_w3.out ab_W4)
    have acc_W4 := hidP (acc_w3.out.trans (ab_W4.mono acc_w3.out.size))
    have sz_W4 : Hid (w3.heap.size ≤ W4.heap.size) := hidP ab_W4.size
    clear ab_W4 bk0_w3 bk1_w3 bkF_w3 bkL_w3 rs0_w3 rs1_w3 rsF_w3 rsL_w3 oL_w3 acc_w3
    refine (HAs.out _ acc_W4.out).mono ?_
    rintro e w5 ⟨rfl, hb5⟩
    have bk0_w5 := (hb5.cell bkL_W4).trans bk0_W4
    have bk1_w5 := (hb5.cell bkL_W4).trans bk1_W4
    have bkF_w5 : ∀ o, w5.frozen? ⟨w.heap.size, o, none⟩ = false := fun o => (hb5.frozen bkL_W4).trans (bkF_W4 o)
    have bkL_w5 : w.heap.size < w5.heap.size := Nat.lt_of_lt_of_le bkL_W4 hb5.size
    have rs0_w5 := (hb5.cell rsL_W4).trans rs0_W4
    have rs1_w5 := (hb5.cell rsL_W4).trans rs1_W4
    have rsF_w5 : ∀ o, w5.frozen? ⟨w.heap.size + 1, o, none⟩ = false := fun o => (hb5.frozen rsL_W4).trans (rsF_W4 o)
    have rsL_w5 : w.heap.size + 1 < w5.heap.size := Nat.lt_of_lt_of_le rsL_W4 hb5.size
    have ou0_w5 := (hb5.cell ouL_W4).trans ou0_W4
    have ou1_w5 := (hb5.cell ouL_W4).trans ou1_W4
    have ouF_w5 : ∀ o, w5.frozen? ⟨w3.heap.size, o, none⟩ = false := fun o => (hb5.frozen ouL_W4).trans (ouF_W4 o)
    have ouL_w5 : w3.heap.size < w5.heap.size := Nat.lt_of_lt_of_le ouL_W4 hb5.size
    have oL_w5 := hidP (OwnG.later oL_W4.out hb5)
    have acc_w5 := hidP (acc_W4.out.trans (hb5.mono acc_W4.out.size))
    have sz_w5 : Hid (W4.heap.size ≤ w5.heap.size) := hidP hb5.size
    clear hb5 bk0_W4 bk1_W4 bkF_W4 bkL_W4 rs0_W4 rs1_W4 rsF_W4 rsL_W4 ou0_W4 ou1_W4 ouF_W4 ouL_W4 oL_W4 acc_W4
    go_wp2_with fail
    refine (HT.out _).mono ?_
    rintro e w6 ⟨rfl, hw6⟩
    rw [hw6]
    clear hw6 w6
    go_wp2_with fail
    refine (HF.out _ acc_w5.out).mono ?_
    rintro e w7 ⟨rfl, hb7⟩
    have bk0_w7 := (hb7.cell bkL_w5).trans bk0_w5
    have bk1_w7 := (hb7.cell bkL_w5).trans bk1_w5
    have bkF_w7 : ∀ o, w7.frozen? ⟨w.heap.size, o, none⟩ = false := fun o => (hb7.frozen bkL_w5).trans (bkF_w5 o)
    have bkL_w7 : w.heap.size < w7.heap.size := Nat.lt_of_lt_of_le bkL_w5 hb7.size
    have rs0_w7 := (hb7.cell rsL_w5).trans rs0_w5
    have rs1_w7 := (hb7.cell rsL_w5).trans rs1_w5
    have rsF_w7 : ∀ o, w7.frozen? ⟨w.heap.size + 1, o, none⟩ = false := fun o => (hb7.frozen rsL_w5).trans (rsF_w5 o)
    have rsL_w7 : w.heap.size + 1 < w7.heap.size := Nat.lt_of_lt_of_le rsL_w5 hb7.size
    have ou0_w7 := (hb7.cell ouL_w5).trans ou0_w5
    have ou1_w7 := (hb7.cell ouL_w5).trans ou1_w5
    have ouF_w7 : ∀ o, w7.frozen? ⟨w3.heap.size, o, none⟩ = false := fun o => (hb7.frozen ouL_w5).trans (ouF_w5 o)
    have ouL_w7 : w3.heap.size < w7.heap.size := Nat.lt_of_lt_of_le ouL_w5 hb7.size
    have oL_w7 := hidP (OwnG.later oL_w5.out hb7)
    have acc_w7 := hidP (acc_w5.out.trans (hb7.mono acc_w5.out.size))
    have sz_w7 : Hid (w5.heap.size ≤ w7.heap.size) := hidP hb7.size
    clear hb7 bk0_w5 bk1_w5 bkF_w5 bkL_w5 rs0_w5 rs1_w5 rsF_w5 rsL_w5 ou0_w5 ou1_w5 ouF_w5 ouL_w5 oL_w5 acc_w5
    obtain ⟨gg, rfl⟩ := own_some oL_w7.out (by omega)
    obtain ⟨q', hgl, hq', e0, e1, e2, e3⟩ := rowSs0 oL_w7.out I HI.out
    rw [HQ.out] at hq'
    cases hq'
    obtain ⟨f0, f1, f2, f3⟩ := frzSs oL_w7.out I
    have lgg := lhL.out gg rfl
    have nA0 : ¬ (gg = w.heap.size) := (by have := as_W1.out; have := sz_W1.out; have := as_W2.out; have := sz_W2.out; have := sz_w3.out; have := as_W4.out; have := sz_W4.out; have := sz_w5.out; have := sz_w7.out; omega)
    have nB0 : ¬ (w.heap.size = gg) := (by have := as_W1.out; have := sz_W1.out; have := as_W2.out; have := sz_W2.out; have := sz_w3.out; have := as_W4.out; have := sz_W4.out; have := sz_w5.out; have := sz_w7.out; omega)
    have nA1 : ¬ (gg = w.heap.size + 1) := (by have := as_W1.out; have := sz_W1.out; have := as_W2.out; have := sz_W2.out; have := sz_w3.out; have := as_W4.out; have := sz_W4.out; have := sz_w5.out; have := sz_w7.out; omega)
    have nB1 : ¬ (w.heap.size + 1 = gg) := (by have := as_W1.out; have := sz_W1.out; have := as_W2.out; have := sz_W2.out; have := sz_w3.out; have := as_W4.out; have := sz_W4.out; have := sz_w5.out; have := sz_w7.out; omega)
    have nA2 : ¬ (gg = w3.heap.size) := (by have := as_W1.out; have := sz_W1.out; have := as_W2.out; have := sz_W2.out; have := sz_w3.out; have := as_W4.out; have := sz_W4.out; have := sz_w5.out; have := sz_w7.out; omega)
    have nB2 : ¬ (w3.heap.size = gg) := (by have := as_W1.out; have := sz_W1.out; have := as_W2.out; have := sz_W2.out; have := sz_w3.out; have := as_W4.out; have := sz_W4.out; have := sz_w5.out; have := sz_w7.out; omega)
    have OM := hidP (own2 oL_w7.out I q s rp HQ.out)
    have hg : w7.grownBy ((w7.setCell ⟨gg, I * 4 + 1, none⟩ (.int .i64 s)).setCell ⟨gg, I * 4 + 2, none⟩ (.string rp)) (Value.slice (some ⟨gg, 0, none⟩) n c3).ownBlock := (grown_cellG _ gg _ _).trans (grown_cellG _ gg _ _)
    have HG := hidP hg
    clear hg
    have ou0s : ((w7.setCell ⟨gg, I * 4 + 1, none⟩ (.int .i64 s)).setCell ⟨gg, I * 4 + 2, none⟩ (.string rp)).cell? ⟨w3.heap.size, 0, none⟩ = some (.slice (some ⟨gg, 0, none⟩) n c3) := cell_set1 (cell_set1 (ou0_w7) nB2) nB2
    have ou1s : ((w7.setCell ⟨gg, I * 4 + 1, none⟩ (.int .i64 s)).setCell ⟨gg, I * 4 + 2, none⟩ (.string rp)).cell? ⟨w3.heap.size, 1, none⟩ = some (.int .i64 N) := cell_set1 (cell_set1 (ou1_w7) nB2) nB2
    have rs0s : ((w7.setCell ⟨gg, I * 4 + 1, none⟩ (.int .i64 s)).setCell ⟨gg, I * 4 + 2, none⟩ (.string rp)).cell? ⟨w.heap.size + 1, 0, none⟩ = some (.slice none 0 0) := cell_set1 (cell_set1 (rs0_w7) nB1) nB1
    have rs1s : ((w7.setCell ⟨gg, I * 4 + 1, none⟩ (.int .i64 s)).setCell ⟨gg, I * 4 + 2, none⟩ (.string rp)).cell? ⟨w.heap.size + 1, 1, none⟩ = some (.int .i64 0) := cell_set1 (cell_set1 (rs1_w7) nB1) nB1
    have HCs := hidP (And.intro ou0s (And.intro ou1s (And.intro rs0s rs1s)))
    clear ou0s ou1s rs0s rs1s
    go_wp2_with fail
    refine bodyPost_ret (v := .tuple #[.agg #[.slice (some ⟨gg, 0, none⟩) n c3, .int .i64 N], .bool true]) (by simp [results, Try.results8, go_sem, rs0_w7, rs1_w7]) rfl ⟨_, _, rfl, ?_, ?_⟩
    · rw [show max q.u u = q.u by omega]
      refine OwnG.mono (B := W2.heap.size) ?_ (by have := as_W1.out; have := sz_W1.out; have := as_W2.out; have := sz_W2.out; have := sz_w3.out; have := as_W4.out; have := sz_W4.out; have := sz_w5.out; have := sz_w7.out; omega)
      iterate 2 (with_reducible refine OwnG.grown ?_ (grown_cellG _ _ _ _) ?_; rotate_left; (focus (exact OwnG.ne_of OM.out (by have := as_W1.out; have := sz_W1.out; have := as_W2.out; have := sz_W2.out; have := sz_w3.out; have := as_W4.out; have := sz_W4.out; have := sz_w5.out; have := sz_w7.out; omega))))
      with_reducible exact OM.out
    · repeat (with_reducible refine Below.setCell ?_ ?_ _; rotate_left; (focus (first | (simp; done) | (simp; omega) | (dsimp only; have := as_W1.out; have := sz_W1.out; have := as_W2.out; have := sz_W2.out; have := sz_w3.out; have := as_W4.out; have := sz_W4.out; have := sz_w5.out; have := sz_w7.out; omega))))
      exact acc_w7.out

end Go.Proofs.Ytjenbmiiikeenaa
