/-
  The specification's OpenSession.
-/
import Derived.Test.YtjenbmiiikeenaaX7Aux
namespace Go.Proofs.Ytjenbmiiikeenaa
open Go.RowKit

set_option maxRecDepth 10000 in
set_option maxHeartbeats 4000000 in
theorem sOp_no (a : Option Addr) (n c : Nat) (N : Int) (ls : List Ss) (w : World) (hn : n = ls.length) (hB : RowG KSs w a ls) (hc : a = none → c = 0) (hl : n ≤ 1048576) (u : Int) (hr : (dkB ls N && (!((n : Int) == 12) && (!(N == 1000000) && tmB u))) = false) :
    Calls Try.prog 15 #[.agg #[.slice a n c, .int .i64 N], .int .i64 u] w fun e w' => ∃ a' c', e = .returned (.tuple #[.agg #[.slice a' n c', .int .i64 N], .int .i64 0]) ∧ OwnG KSs 39 w' w.heap.size (.slice a' n c') (ls) ∧ Below w.heap.size w w' := by
  have HCp := hidP (fun W h => l7Copy_any a n c N ls W hn (hB.later h) hc hl)
  have HSp := hidP (fun W e1 => sDeskOk_any a n c N ls W hn (hB.later e1) hl)
  have HT := hidP (l1In7_any u 0 1000000000)
  have HN := hidP hn
  clear hB hc
  cases hb : dkB ls N
  · rw [hb] at HSp
    clear hr hn
    go_enter Try.func15, Try.ntmps15
    go_wp2_with fail
    obtain ⟨bk0_W1, bk1_W1⟩ := box2D w 26 (.slice a n c) (.int .i64 N)
    have bkF_W1 : ∀ o, (w.alloc (.cells #[.slice a n c, .int .i64 N] 26)).frozen? ⟨w.heap.size, o, none⟩ = false := fun o => by simp [go_sem]
    have bkL_W1 : w.heap.size < (w.alloc (.cells #[.slice a n c, .int .i64 N] 26)).heap.size := by simp
    have ab_W1 := alloc_below w (.cells #[.slice a n c, .int .i64 N] 26)
    have as_W1 : Hid ((w.alloc (.cells #[.slice a n c, .int .i64 N] 26)).heap.size = w.heap.size + 1) := hidP (by simp)
    generalize w.alloc (.cells #[.slice a n c, .int .i64 N] 26) = W1 at *
    have acc_W1 := hidP (ab_W1)
    have sz_W1 : Hid (w.heap.size ≤ W1.heap.size) := hidP ab_W1.size
    clear ab_W1 
    obtain ⟨rs0_W2, rs1_W2⟩ := box2D W1 26 (.slice none 0 0) (.int .i64 0)
    have rsF_W2 : ∀ o, (W1.alloc (.cells #[.slice none 0 0, .int .i64 0] 26)).frozen? ⟨W1.heap.size, o, none⟩ = false := fun o => by simp [go_sem]
    have rsL_W2 : W1.heap.size < (W1.alloc (.cells #[.slice none 0 0, .int .i64 0] 26)).heap.size := by simp
    have ab_W2 := alloc_below W1 (.cells #[.slice none 0 0, .int .i64 0] 26)
    have as_W2 : Hid ((W1.alloc (.cells #[.slice none 0 0, .int .i64 0] 26)).heap.size = W1.heap.size + 1) := hidP (by simp)
    generalize W1.alloc (.cells #[.slice none 0 0, .int .i64 0] 26) = W2 at *
    have bk0_W2 := (ab_W2.cell bkL_W1).trans bk0_W1
    have bk1_W2 := (ab_W2.cell bkL_W1).trans bk1_W1
    have bkF_W2 : ∀ o, W2.frozen? ⟨w.heap.size, o, none⟩ = false := fun o => (ab_W2.frozen bkL_W1).trans (bkF_W1 o)
    have bkL_W2 : w.heap.size < W2.heap.size := Nat.lt_of_lt_of_le bkL_W1 ab_W2.size
    have acc_W2 := hidP (acc_W1.out.trans (ab_W2.mono acc_W1.out.size))
    have sz_W2 : Hid (W1.heap.size ≤ W2.heap.size) := hidP ab_W2.size
    clear ab_W2 bk0_W1 bk1_W1 bkF_W1 bkL_W1 acc_W1
    rw [as_W1.out] at rs0_W2 rs1_W2 rsL_W2
    have rsF_W2' : ∀ o, W2.frozen? ⟨w.heap.size + 1, o, none⟩ = false := fun o => by have := rsF_W2 o; rw [as_W1.out] at this; exact this
    clear rsF_W2
    have rsF_W2 := rsF_W2'
    clear rsF_W2'
    refine (HCp.out _ acc_W2.out).mono ?_
    rintro e w3 ⟨a3, c3, rfl, og3, hb3⟩
    have OG := hidP og3
    clear og3
    have bk0_w3 := (hb3.cell bkL_W2).trans bk0_W2
    have bk1_w3 := (hb3.cell bkL_W2).trans bk1_W2
    have bkF_w3 : ∀ o, w3.frozen? ⟨w.heap.size, o, none⟩ = false := fun o => (hb3.frozen bkL_W2).trans (bkF_W2 o)
    have bkL_w3 : w.heap.size < w3.heap.size := Nat.lt_of_lt_of_le bkL_W2 hb3.size
    have rs0_w3 := (hb3.cell rsL_W2).trans rs0_W2
    have rs1_w3 := (hb3.cell rsL_W2).trans rs1_W2
    have rsF_w3 : ∀ o, w3.frozen? ⟨w.heap.size + 1, o, none⟩ = false := fun o => (hb3.frozen rsL_W2).trans (rsF_W2 o)
    have rsL_w3 : w.heap.size + 1 < w3.heap.size := Nat.lt_of_lt_of_le rsL_W2 hb3.size
    have acc_w3 := hidP (acc_W2.out.trans (hb3.mono acc_W2.out.size))
    have sz_w3 : Hid (W2.heap.size ≤ w3.heap.size) := hidP hb3.size
    clear hb3 bk0_W2 bk1_W2 bkF_W2 bkL_W2 rs0_W2 rs1_W2 rsF_W2 rsL_W2 acc_W2
    have oL_w3 := hidP (OG.out)
    have lhL : Hid (∀ k, (Value.slice a3 n c3).ownBlock = some k → W2.heap.size ≤ k ∧ k < w3.heap.size) := hidP (fun k hk => OwnG.lt oL_w3.out k hk)
    clear OG
    go_wp2_with fail
    obtain ⟨ou0_W4, ou1_W4⟩ := box2D w3 26 (.slice a3 n c3) (.int .i64 N)
    have ouF_W4 : ∀ o, (w3.alloc (.cells #[.slice a3 n c3, .int .i64 N] 26)).frozen? ⟨w3.heap.size, o, none⟩ = false := fun o => by simp [go_sem]
    have ouL_W4 : w3.heap.size < (w3.alloc (.cells #[.slice a3 n c3, .int .i64 N] 26)).heap.size := by simp
    have ab_W4 := alloc_below w3 (.cells #[.slice a3 n c3, .int .i64 N] 26)
    have as_W4 : Hid ((w3.alloc (.cells #[.slice a3 n c3, .int .i64 N] 26)).heap.size = w3.heap.size + 1) := hidP (by simp)
    generalize w3.alloc (.cells #[.slice a3 n c3, .int .i64 N] 26) = W4 at *
    have bk0_W4 := (ab_W4.cell bkL_w3).trans bk0_w3
    have bk1_W4 := (ab_W4.cell bkL_w3).trans bk1_w3
    have bkF_W4 : ∀ o, W4.frozen? ⟨w.heap.size, o, none⟩ = false := fun o => (ab_W4.frozen bkL_w3).trans (bkF_w3 o)
    have bkL_W4 : w.heap.size < W4.heap.size := Nat.lt_of_lt_of_le bkL_w3 ab_W4.size
    have rs0_W4 := (ab_W4.cell rsL_w3).trans rs0_w3
    have rs1_W4 := (ab_W4.cell rsL_w3).trans rs1_w3
    have rsF_W4 : ∀ o, W4.frozen? ⟨w.heap.size + 1, o, none⟩ = false := fun o => (ab_W4.frozen rsL_w3).trans (rsF_w3 o)
    have rsL_W4 : w.heap.size + 1 < W4.heap.size := Nat.lt_of_lt_of_le rsL_w3 ab_W4.size
    have oL_W4 := hidP (OwnG.later oL_w3.out ab_W4)
    have acc_W4 := hidP (acc_w3.out.trans (ab_W4.mono acc_w3.out.size))
    have sz_W4 : Hid (w3.heap.size ≤ W4.heap.size) := hidP ab_W4.size
    clear ab_W4 bk0_w3 bk1_w3 bkF_w3 bkL_w3 rs0_w3 rs1_w3 rsF_w3 rsL_w3 oL_w3 acc_w3
    refine (HSp.out _ acc_W4.out).mono ?_
    rintro e w5 ⟨rfl, hb5⟩
    have bk0_w5 := (hb5.cell bkL_W4).trans bk0_W4
    have bk1_w5 := (hb5.cell bkL_W4).trans bk1_W4
    have bkF_w5 : ∀ o, w5.frozen? ⟨w.heap.size, o, none⟩ = false := fun o => (hb5.frozen bkL_W4).trans (bkF_W4 o)
    have bkL_w5 : w.heap.size < w5.heap.size := Nat.lt_of_lt_of_le bkL_W4 hb5.size
    have rs0_w5 := (hb5.cell rsL_W4).trans rs0_W4
    have rs1_w5 := (hb5.cell rsL_W4).trans rs1_W4
    have rsF_w5 : ∀ o, w5.frozen? ⟨w.heap.size + 1, o, none⟩ = false := fun o => (hb5.frozen rsL_W4).trans (rsF_W4 o)
    have rsL_w5 : w.heap.size + 1 < w5.heap.size := Nat.lt_of_lt_of_le rsL_W4 hb5.size
    have ou0_w5 := (hb5.cell ouL_W4).trans ou0_W4
    have ou1_w5 := (hb5.cell ouL_W4).trans ou1_W4
    have ouF_w5 : ∀ o, w5.frozen? ⟨w3.heap.size, o, none⟩ = false := fun o => (hb5.frozen ouL_W4).trans (ouF_W4 o)
    have ouL_w5 : w3.heap.size < w5.heap.size := Nat.lt_of_lt_of_le ouL_W4 hb5.size
    have oL_w5 := hidP (OwnG.later oL_W4.out hb5)
    have acc_w5 := hidP (acc_W4.out.trans (hb5.mono acc_W4.out.size))
    have sz_w5 : Hid (W4.heap.size ≤ w5.heap.size) := hidP hb5.size
    clear hb5 bk0_W4 bk1_W4 bkF_W4 bkL_W4 rs0_W4 rs1_W4 rsF_W4 rsL_W4 ou0_W4 ou1_W4 ouF_W4 ouL_W4 oL_W4 acc_W4
    go_wp2_with fail
    refine bodyPost_ret (v := .tuple #[.agg #[.slice a3 n c3, .int .i64 N], .int .i64 0]) (by simp [results, Try.results15, go_sem, rs0_w5, rs1_w5]) rfl ⟨_, _, rfl, ?_, ?_⟩
    · refine OwnG.mono (B := W2.heap.size) ?_ (by have := as_W1.out; have := sz_W1.out; have := as_W2.out; have := sz_W2.out; have := sz_w3.out; have := as_W4.out; have := sz_W4.out; have := sz_w5.out; omega)
      iterate 2 (with_reducible refine OwnG.grown ?_ (grown_cellG _ _ _ _) ?_; rotate_left; (focus (first | exact OwnG.ne_of oL_w5.out (by have := as_W1.out; have := sz_W1.out; have := as_W2.out; have := sz_W2.out; have := sz_w3.out; have := as_W4.out; have := sz_W4.out; have := sz_w5.out; omega))))
      with_reducible exact oL_w5.out
    · repeat (with_reducible refine Below.setCell ?_ ?_ _; rotate_left; (focus (first | (simp; done) | (simp; omega) | (dsimp only; have := as_W1.out; have := sz_W1.out; have := as_W2.out; have := sz_W2.out; have := sz_w3.out; have := as_W4.out; have := sz_W4.out; have := sz_w5.out; omega))))
      exact acc_w5.out
  · rw [hb] at HSp hr
    obtain ⟨_, hN0, hN1, _⟩ := dk_next hb
    clear hn hb
    cases h1 : ((n : Int) == 12)
    · rw [h1] at hr
      cases h2 : (N == 1000000)
      · rw [h2] at hr
        have h3 : (decide (0 ≤ u) && decide (u ≤ 1000000000)) = false := by simpa [tmB] using hr
        rw [h3] at HT
        clear hr h3
        go_enter Try.func15, Try.ntmps15
        go_wp2_with fail
        obtain ⟨bk0_W1, bk1_W1⟩ := box2D w 26 (.slice a n c) (.int .i64 N)
        have bkF_W1 : ∀ o, (w.alloc (.cells #[.slice a n c, .int .i64 N] 26)).frozen? ⟨w.heap.size, o, none⟩ = false := fun o => by simp [go_sem]
        have bkL_W1 : w.heap.size < (w.alloc (.cells #[.slice a n c, .int .i64 N] 26)).heap.size := by simp
        have ab_W1 := alloc_below w (.cells #[.slice a n c, .int .i64 N] 26)
        have as_W1 : Hid ((w.alloc (.cells #[.slice a n c, .int .i64 N] 26)).heap.size = w.heap.size + 1) := hidP (by simp)
        generalize w.alloc (.cells #[.slice a n c, .int .i64 N] 26) = W1 at *
        have acc_W1 := hidP (ab_W1)
        have sz_W1 : Hid (w.heap.size ≤ W1.heap.size) := hidP ab_W1.size
        clear ab_W1 
        obtain ⟨rs0_W2, rs1_W2⟩ := box2D W1 26 (.slice none 0 0) (.int .i64 0)
        have rsF_W2 : ∀ o, (W1.alloc (.cells #[.slice none 0 0, .int .i64 0] 26)).frozen? ⟨W1.heap.size, o, none⟩ = false := fun o => by simp [go_sem]
        have rsL_W2 : W1.heap.size < (W1.alloc (.cells #[.slice none 0 0, .int .i64 0] 26)).heap.size := by simp
        have ab_W2 := alloc_below W1 (.cells #[.slice none 0 0, .int .i64 0] 26)
        have as_W2 : Hid ((W1.alloc (.cells #[.slice none 0 0, .int .i64 0] 26)).heap.size = W1.heap.size + 1) := hidP (by simp)
        generalize W1.alloc (.cells #[.slice none 0 0, .int .i64 0] 26) = W2 at *
        have bk0_W2 := (ab_W2.cell bkL_W1).trans bk0_W1
        have bk1_W2 := (ab_W2.cell bkL_W1).trans bk1_W1
        have bkF_W2 : ∀ o, W2.frozen? ⟨w.heap.size, o, none⟩ = false := fun o => (ab_W2.frozen bkL_W1).trans (bkF_W1 o)
        have bkL_W2 : w.heap.size < W2.heap.size := Nat.lt_of_lt_of_le bkL_W1 ab_W2.size
        have acc_W2 := hidP (acc_W1.out.trans (ab_W2.mono acc_W1.out.size))
        have sz_W2 : Hid (W1.heap.size ≤ W2.heap.size) := hidP ab_W2.size
        clear ab_W2 bk0_W1 bk1_W1 bkF_W1 bkL_W1 acc_W1
        rw [as_W1.out] at rs0_W2 rs1_W2 rsL_W2
        have rsF_W2' : ∀ o, W2.frozen? ⟨w.heap.size + 1, o, none⟩ = false := fun o => by have := rsF_W2 o; rw [as_W1.out] at this; exact this
        clear rsF_W2
        have rsF_W2 := rsF_W2'
        clear rsF_W2'
        refine (HCp.out _ acc_W2.out).mono ?_
        rintro e w3 ⟨a3, c3, rfl, og3, hb3⟩
        have OG := hidP og3
        clear og3
        have bk0_w3 := (hb3.cell bkL_W2).trans bk0_W2
        have bk1_w3 := (hb3.cell bkL_W2).trans bk1_W2
        have bkF_w3 : ∀ o, w3.frozen? ⟨w.heap.size, o, none⟩ = false := fun o => (hb3.frozen bkL_W2).trans (bkF_W2 o)
        have bkL_w3 : w.heap.size < w3.heap.size := Nat.lt_of_lt_of_le bkL_W2 hb3.size
        have rs0_w3 := (hb3.cell rsL_W2).trans rs0_W2
        have rs1_w3 := (hb3.cell rsL_W2).trans rs1_W2
        have rsF_w3 : ∀ o, w3.frozen? ⟨w.heap.size + 1, o, none⟩ = false := fun o => (hb3.frozen rsL_W2).trans (rsF_W2 o)
        have rsL_w3 : w.heap.size + 1 < w3.heap.size := Nat.lt_of_lt_of_le rsL_W2 hb3.size
        have acc_w3 := hidP (acc_W2.out.trans (hb3.mono acc_W2.out.size))
        have sz_w3 : Hid (W2.heap.size ≤ w3.heap.size) := hidP hb3.size
        clear hb3 bk0_W2 bk1_W2 bkF_W2 bkL_W2 rs0_W2 rs1_W2 rsF_W2 rsL_W2 acc_W2
        have oL_w3 := hidP (OG.out)
        have lhL : Hid (∀ k, (Value.slice a3 n c3).ownBlock = some k → W2.heap.size ≤ k ∧ k < w3.heap.size) := hidP (fun k hk => OwnG.lt oL_w3.out k hk)
        clear OG
        go_wp2_with fail
        obtain ⟨ou0_W4, ou1_W4⟩ := box2D w3 26 (.slice a3 n c3) (.int .i64 N)
        have ouF_W4 : ∀ o, (w3.alloc (.cells #[.slice a3 n c3, .int .i64 N] 26)).frozen? ⟨w3.heap.size, o, none⟩ = false := fun o => by simp [go_sem]
        have ouL_W4 : w3.heap.size < (w3.alloc (.cells #[.slice a3 n c3, .int .i64 N] 26)).heap.size := by simp
        have ab_W4 := alloc_below w3 (.cells #[.slice a3 n c3, .int .i64 N] 26)
        have as_W4 : Hid ((w3.alloc (.cells #[.slice a3 n c3, .int .i64 N] 26)).heap.size = w3.heap.size + 1) := hidP (by simp)
        generalize w3.alloc (.cells #[.slice a3 n c3, .int .i64 N] 26) = W4 at *
        have bk0_W4 := (ab_W4.cell bkL_w3).trans bk0_w3
        have bk1_W4 := (ab_W4.cell bkL_w3).trans bk1_w3
        have bkF_W4 : ∀ o, W4.frozen? ⟨w.heap.size, o, none⟩ = false := fun o => (ab_W4.frozen bkL_w3).trans (bkF_w3 o)
        have bkL_W4 : w.heap.size < W4.heap.size := Nat.lt_of_lt_of_le bkL_w3 ab_W4.size
        have rs0_W4 := (ab_W4.cell rsL_w3).trans rs0_w3
        have rs1_W4 := (ab_W4.cell rsL_w3).trans rs1_w3
        have rsF_W4 : ∀ o, W4.frozen? ⟨w.heap.size + 1, o, none⟩ = false := fun o => (ab_W4.frozen rsL_w3).trans (rsF_w3 o)
        have rsL_W4 : w.heap.size + 1 < W4.heap.size := Nat.lt_of_lt_of_le rsL_w3 ab_W4.size
        have oL_W4 := hidP (OwnG.later oL_w3.out ab_W4)
        have acc_W4 := hidP (acc_w3.out.trans (ab_W4.mono acc_w3.out.size))
        have sz_W4 : Hid (w3.heap.size ≤ W4.heap.size) := hidP ab_W4.size
        clear ab_W4 bk0_w3 bk1_w3 bkF_w3 bkL_w3 rs0_w3 rs1_w3 rsF_w3 rsL_w3 oL_w3 acc_w3
        refine (HSp.out _ acc_W4.out).mono ?_
        rintro e w5 ⟨rfl, hb5⟩
        have bk0_w5 := (hb5.cell bkL_W4).trans bk0_W4
        have bk1_w5 := (hb5.cell bkL_W4).trans bk1_W4
        have bkF_w5 : ∀ o, w5.frozen? ⟨w.heap.size, o, none⟩ = false := fun o => (hb5.frozen bkL_W4).trans (bkF_W4 o)
        have bkL_w5 : w.heap.size < w5.heap.size := Nat.lt_of_lt_of_le bkL_W4 hb5.size
        have rs0_w5 := (hb5.cell rsL_W4).trans rs0_W4
        have rs1_w5 := (hb5.cell rsL_W4).trans rs1_W4
        have rsF_w5 : ∀ o, w5.frozen? ⟨w.heap.size + 1, o, none⟩ = false := fun o => (hb5.frozen rsL_W4).trans (rsF_W4 o)
        have rsL_w5 : w.heap.size + 1 < w5.heap.size := Nat.lt_of_lt_of_le rsL_W4 hb5.size
        have ou0_w5 := (hb5.cell ouL_W4).trans ou0_W4
        have ou1_w5 := (hb5.cell ouL_W4).trans ou1_W4
        have ouF_w5 : ∀ o, w5.frozen? ⟨w3.heap.size, o, none⟩ = false := fun o => (hb5.frozen ouL_W4).trans (ouF_W4 o)
        have ouL_w5 : w3.heap.size < w5.heap.size := Nat.lt_of_lt_of_le ouL_W4 hb5.size
        have oL_w5 := hidP (OwnG.later oL_W4.out hb5)
        have acc_w5 := hidP (acc_W4.out.trans (hb5.mono acc_W4.out.size))
        have sz_w5 : Hid (W4.heap.size ≤ w5.heap.size) := hidP hb5.size
        clear hb5 bk0_W4 bk1_W4 bkF_W4 bkL_W4 rs0_W4 rs1_W4 rsF_W4 rsL_W4 ou0_W4 ou1_W4 ouF_W4 ouL_W4 oL_W4 acc_W4
        go_wp2_with fail
        refine (HT.out _).mono ?_
        rintro e w6 ⟨rfl, hw6⟩
        rw [hw6]
        clear hw6 w6
        go_wp2_with fail
        refine bodyPost_ret (v := .tuple #[.agg #[.slice a3 n c3, .int .i64 N], .int .i64 0]) (by simp [results, Try.results15, go_sem, rs0_w5, rs1_w5]) rfl ⟨_, _, rfl, ?_, ?_⟩
        · refine OwnG.mono (B := W2.heap.size) ?_ (by have := as_W1.out; have := sz_W1.out; have := as_W2.out; have := sz_W2.out; have := sz_w3.out; have := as_W4.out; have := sz_W4.out; have := sz_w5.out; omega)
          iterate 2 (with_reducible refine OwnG.grown ?_ (grown_cellG _ _ _ _) ?_; rotate_left; (focus (first | exact OwnG.ne_of oL_w5.out (by have := as_W1.out; have := sz_W1.out; have := as_W2.out; have := sz_W2.out; have := sz_w3.out; have := as_W4.out; have := sz_W4.out; have := sz_w5.out; omega))))
          with_reducible exact oL_w5.out
        · repeat (with_reducible refine Below.setCell ?_ ?_ _; rotate_left; (focus (first | (simp; done) | (simp; omega) | (dsimp only; have := as_W1.out; have := sz_W1.out; have := as_W2.out; have := sz_W2.out; have := sz_w3.out; have := as_W4.out; have := sz_W4.out; have := sz_w5.out; omega))))
          exact acc_w5.out
      · clear hr
        go_enter Try.func15, Try.ntmps15
        go_wp2_with fail
        obtain ⟨bk0_W1, bk1_W1⟩ := box2D w 26 (.slice a n c) (.int .i64 N)
        have bkF_W1 : ∀ o, (w.alloc (.cells #[.slice a n c, .int .i64 N] 26)).frozen? ⟨w.heap.size, o, none⟩ = false := fun o => by simp [go_sem]
        have bkL_W1 : w.heap.size < (w.alloc (.cells #[.slice a n c, .int .i64 N] 26)).heap.size := by simp
        have ab_W1 := alloc_below w (.cells #[.slice a n c, .int .i64 N] 26)
        have as_W1 : Hid ((w.alloc (.cells #[.slice a n c, .int .i64 N] 26)).heap.size = w.heap.size + 1) := hidP (by simp)
        generalize w.alloc (.cells #[.slice a n c, .int .i64 N] 26) = W1 at *
        have acc_W1 := hidP (ab_W1)
        have sz_W1 : Hid (w.heap.size ≤ W1.heap.size) := hidP ab_W1.size
        clear ab_W1 
        obtain ⟨rs0_W2, rs1_W2⟩ := box2D W1 26 (.slice none 0 0) (.int .i64 0)
        have rsF_W2 : ∀ o, (W1.alloc (.cells #[.slice none 0 0, .int .i64 0] 26)).frozen? ⟨W1.heap.size, o, none⟩ = false := fun o => by simp [go_sem]
        have rsL_W2 : W1.heap.size < (W1.alloc (.cells #[.slice none 0 0, .int .i64 0] 26)).heap.size := by simp
        have ab_W2 := alloc_below W1 (.cells #[.slice none 0 0, .int .i64 0] 26)
        have as_W2 : Hid ((W1.alloc (.cells #[.slice none 0 0, .int .i64 0] 26)).heap.size = W1.heap.size + 1) := hidP (by simp)
        generalize W1.alloc (.cells #[.slice none 0 0, .int .i64 0] 26) = W2 at *
        have bk0_W2 := (ab_W2.cell bkL_W1).trans bk0_W1
        have bk1_W2 := (ab_W2.cell bkL_W1).trans bk1_W1
        have bkF_W2 : ∀ o, W2.frozen? ⟨w.heap.size, o, none⟩ = false := fun o => (ab_W2.frozen bkL_W1).trans (bkF_W1 o)
        have bkL_W2 : w.heap.size < W2.heap.size := Nat.lt_of_lt_of_le bkL_W1 ab_W2.size
        have acc_W2 := hidP (acc_W1.out.trans (ab_W2.mono acc_W1.out.size))
        have sz_W2 : Hid (W1.heap.size ≤ W2.heap.size) := hidP ab_W2.size
        clear ab_W2 bk0_W1 bk1_W1 bkF_W1 bkL_W1 acc_W1
        rw [as_W1.out] at rs0_W2 rs1_W2 rsL_W2
        have rsF_W2' : ∀ o, W2.frozen? ⟨w.heap.size + 1, o, none⟩ = false := fun o => by have := rsF_W2 o; rw [as_W1.out] at this; exact this
        clear rsF_W2
        have rsF_W2 := rsF_W2'
        clear rsF_W2'
        refine (HCp.out _ acc_W2.out).mono ?_
        rintro e w3 ⟨a3, c3, rfl, og3, hb3⟩
        have OG := hidP og3
        clear og3
        have bk0_w3 := (hb3.cell bkL_W2).trans bk0_W2
        have bk1_w3 := (hb3.cell bkL_W2).trans bk1_W2
        have bkF_w3 : ∀ o, w3.frozen? ⟨w.heap.size, o, none⟩ = false := fun o => (hb3.frozen bkL_W2).trans (bkF_W2 o)
        have bkL_w3 : w.heap.size < w3.heap.size := Nat.lt_of_lt_of_le bkL_W2 hb3.size
        have rs0_w3 := (hb3.cell rsL_W2).trans rs0_W2
        have rs1_w3 := (hb3.cell rsL_W2).trans rs1_W2
        have rsF_w3 : ∀ o, w3.frozen? ⟨w.heap.size + 1, o, none⟩ = false := fun o => (hb3.frozen rsL_W2).trans (rsF_W2 o)
        have rsL_w3 : w.heap.size + 1 < w3.heap.size := Nat.lt_of_lt_of_le rsL_W2 hb3.size
        have acc_w3 := hidP (acc_W2.out.trans (hb3.mono acc_W2.out.size))
        have sz_w3 : Hid (W2.heap.size ≤ w3.heap.size) := hidP hb3.size
        clear hb3 bk0_W2 bk1_W2 bkF_W2 bkL_W2 rs0_W2 rs1_W2 rsF_W2 rsL_W2 acc_W2
        have oL_w3 := hidP (OG.out)
        have lhL : Hid (∀ k, (Value.slice a3 n c3).ownBlock = some k → W2.heap.size ≤ k ∧ k < w3.heap.size) := hidP (fun k hk => OwnG.lt oL_w3.out k hk)
        clear OG
        go_wp2_with fail
        obtain ⟨ou0_W4, ou1_W4⟩ := box2D w3 26 (.slice a3 n c3) (.int .i64 N)
        have ouF_W4 : ∀ o, (w3.alloc (.cells #[.slice a3 n c3, .int .i64 N] 26)).frozen? ⟨w3.heap.size, o, none⟩ = false := fun o => by simp [go_sem]
        have ouL_W4 : w3.heap.size < (w3.alloc (.cells #[.slice a3 n c3, .int .i64 N] 26)).heap.size := by simp
        have ab_W4 := alloc_below w3 (.cells #[.slice a3 n c3, .int .i64 N] 26)
        have as_W4 : Hid ((w3.alloc (.cells #[.slice a3 n c3, .int .i64 N] 26)).heap.size = w3.heap.size + 1) := hidP (by simp)
        generalize w3.alloc (.cells #[.slice a3 n c3, .int .i64 N] 26) = W4 at *
        have bk0_W4 := (ab_W4.cell bkL_w3).trans bk0_w3
        have bk1_W4 := (ab_W4.cell bkL_w3).trans bk1_w3
        have bkF_W4 : ∀ o, W4.frozen? ⟨w.heap.size, o, none⟩ = false := fun o => (ab_W4.frozen bkL_w3).trans (bkF_w3 o)
        have bkL_W4 : w.heap.size < W4.heap.size := Nat.lt_of_lt_of_le bkL_w3 ab_W4.size
        have rs0_W4 := (ab_W4.cell rsL_w3).trans rs0_w3
        have rs1_W4 := (ab_W4.cell rsL_w3).trans rs1_w3
        have rsF_W4 : ∀ o, W4.frozen? ⟨w.heap.size + 1, o, none⟩ = false := fun o => (ab_W4.frozen rsL_w3).trans (rsF_w3 o)
        have rsL_W4 : w.heap.size + 1 < W4.heap.size := Nat.lt_of_lt_of_le rsL_w3 ab_W4.size
        have oL_W4 := hidP (OwnG.later oL_w3.out ab_W4)
        have acc_W4 := hidP (acc_w3.out.trans (ab_W4.mono acc_w3.out.size))
        have sz_W4 : Hid (w3.heap.size ≤ W4.heap.size) := hidP ab_W4.size
        clear ab_W4 bk0_w3 bk1_w3 bkF_w3 bkL_w3 rs0_w3 rs1_w3 rsF_w3 rsL_w3 oL_w3 acc_w3
        refine (HSp.out _ acc_W4.out).mono ?_
        rintro e w5 ⟨rfl, hb5⟩
        have bk0_w5 := (hb5.cell bkL_W4).trans bk0_W4
        have bk1_w5 := (hb5.cell bkL_W4).trans bk1_W4
        have bkF_w5 : ∀ o, w5.frozen? ⟨w.heap.size, o, none⟩ = false := fun o => (hb5.frozen bkL_W4).trans (bkF_W4 o)
        have bkL_w5 : w.heap.size < w5.heap.size := Nat.lt_of_lt_of_le bkL_W4 hb5.size
        have rs0_w5 := (hb5.cell rsL_W4).trans rs0_W4
        have rs1_w5 := (hb5.cell rsL_W4).trans rs1_W4
        have rsF_w5 : ∀ o, w5.frozen? ⟨w.heap.size + 1, o, none⟩ = false := fun o => (hb5.frozen rsL_W4).trans (rsF_W4 o)
        have rsL_w5 : w.heap.size + 1 < w5.heap.size := Nat.lt_of_lt_of_le rsL_W4 hb5.size
        have ou0_w5 := (hb5.cell ouL_W4).trans ou0_W4
        have ou1_w5 := (hb5.cell ouL_W4).trans ou1_W4
        have ouF_w5 : ∀ o, w5.frozen? ⟨w3.heap.size, o, none⟩ = false := fun o => (hb5.frozen ouL_W4).trans (ouF_W4 o)
        have ouL_w5 : w3.heap.size < w5.heap.size := Nat.lt_of_lt_of_le ouL_W4 hb5.size
        have oL_w5 := hidP (OwnG.later oL_W4.out hb5)
        have acc_w5 := hidP (acc_W4.out.trans (hb5.mono acc_W4.out.size))
        have sz_w5 : Hid (W4.heap.size ≤ w5.heap.size) := hidP hb5.size
        clear hb5 bk0_W4 bk1_W4 bkF_W4 bkL_W4 rs0_W4 rs1_W4 rsF_W4 rsL_W4 ou0_W4 ou1_W4 ouF_W4 ouL_W4 oL_W4 acc_W4
        go_wp2_with fail
        refine bodyPost_ret (v := .tuple #[.agg #[.slice a3 n c3, .int .i64 N], .int .i64 0]) (by simp [results, Try.results15, go_sem, rs0_w5, rs1_w5]) rfl ⟨_, _, rfl, ?_, ?_⟩
        · refine OwnG.mono (B := W2.heap.size) ?_ (by have := as_W1.out; have := sz_W1.out; have := as_W2.out; have := sz_W2.out; have := sz_w3.out; have := as_W4.out; have := sz_W4.out; have := sz_w5.out; omega)
          iterate 2 (with_reducible refine OwnG.grown ?_ (grown_cellG _ _ _ _) ?_; rotate_left; (focus (first | exact OwnG.ne_of oL_w5.out (by have := as_W1.out; have := sz_W1.out; have := as_W2.out; have := sz_W2.out; have := sz_w3.out; have := as_W4.out; have := sz_W4.out; have := sz_w5.out; omega))))
          with_reducible exact oL_w5.out
        · repeat (with_reducible refine Below.setCell ?_ ?_ _; rotate_left; (focus (first | (simp; done) | (simp; omega) | (dsimp only; have := as_W1.out; have := sz_W1.out; have := as_W2.out; have := sz_W2.out; have := sz_w3.out; have := as_W4.out; have := sz_W4.out; have := sz_w5.out; omega))))
          exact acc_w5.out
    · clear hr
      go_enter Try.func15, Try.ntmps15
      go_wp2_with fail
      obtain ⟨bk0_W1, bk1_W1⟩ := box2D w 26 (.slice a n c) (.int .i64 N)
      have bkF_W1 : ∀ o, (w.alloc (.cells #[.slice a n c, .int .i64 N] 26)).frozen? ⟨w.heap.size, o, none⟩ = false := fun o => by simp [go_sem]
      have bkL_W1 : w.heap.size < (w.alloc (.cells #[.slice a n c, .int .i64 N] 26)).heap.size := by simp
      have ab_W1 := alloc_below w (.cells #[.slice a n c, .int .i64 N] 26)
      have as_W1 : Hid ((w.alloc (.cells #[.slice a n c, .int .i64 N] 26)).heap.size = w.heap.size + 1) := hidP (by simp)
      generalize w.alloc (.cells #[.slice a n c, .int .i64 N] 26) = W1 at *
      have acc_W1 := hidP (ab_W1)
      have sz_W1 : Hid (w.heap.size ≤ W1.heap.size) := hidP ab_W1.size
      clear ab_W1 
      obtain ⟨rs0_W2, rs1_W2⟩ := box2D W1 26 (.slice none 0 0) (.int .i64 0)
      have rsF_W2 : ∀ o, (W1.alloc (.cells #[.slice none 0 0, .int .i64 0] 26)).frozen? ⟨W1.heap.size, o, none⟩ = false := fun o => by simp [go_sem]
      have rsL_W2 : W1.heap.size < (W1.alloc (.cells #[.slice none 0 0, .int .i64 0] 26)).heap.size := by simp
      have ab_W2 := alloc_below W1 (.cells #[.slice none 0 0, .int .i64 0] 26)
      have as_W2 : Hid ((W1.alloc (.cells #[.slice none 0 0, .int .i64 0] 26)).heap.size = W1.heap.size + 1) := hidP (by simp)
      generalize W1.alloc (.cells #[.slice none 0 0, .int .i64 0] 26) = W2 at *
      have bk0_W2 := (ab_W2.cell bkL_W1).trans bk0_W1
      have bk1_W2 := (ab_W2.cell bkL_W1).trans bk1_W1
      have bkF_W2 : ∀ o, W2.frozen? ⟨w.heap.size, o, none⟩ = false := fun o => (ab_W2.frozen bkL_W1).trans (bkF_W1 o)
      have bkL_W2 : w.heap.size < W2.heap.size := Nat.lt_of_lt_of_le bkL_W1 ab_W2.size
      have acc_W2 := hidP (acc_W1.out.trans (ab_W2.mono acc_W1.out.size))
      have sz_W2 : Hid (W1.heap.size ≤ W2.heap.size) := hidP ab_W2.size
      clear ab_W2 bk0_W1 bk1_W1 bkF_W1 bkL_W1 acc_W1
      rw [as_W1.out] at rs0_W2 rs1_W2 rsL_W2
      have rsF_W2' : ∀ o, W2.frozen? ⟨w.heap.size + 1, o, none⟩ = false := fun o => by have := rsF_W2 o; rw [as_W1.out] at this; exact this
      clear rsF_W2
      have rsF_W2 := rsF_W2'
      clear rsF_W2'
      refine (HCp.out _ acc_W2.out).mono ?_
      rintro e w3 ⟨a3, c3, rfl, og3, hb3⟩
      have OG := hidP og3
      clear og3
      have bk0_w3 := (hb3.cell bkL_W2).trans bk0_W2
      have bk1_w3 := (hb3.cell bkL_W2).trans bk1_W2
      have bkF_w3 : ∀ o, w3.frozen? ⟨w.heap.size, o, none⟩ = false := fun o => (hb3.frozen bkL_W2).trans (bkF_W2 o)
      have bkL_w3 : w.heap.size < w3.heap.size := Nat.lt_of_lt_of_le bkL_W2 hb3.size
      have rs0_w3 := (hb3.cell rsL_W2).trans rs0_W2
      have rs1_w3 := (hb3.cell rsL_W2).trans rs1_W2
      have rsF_w3 : ∀ o, w3.frozen? ⟨w.heap.size + 1, o, none⟩ = false := fun o => (hb3.frozen rsL_W2).trans (rsF_W2 o)
      have rsL_w3 : w.heap.size + 1 < w3.heap.size := Nat.lt_of_lt_of_le rsL_W2 hb3.size
      have acc_w3 := hidP (acc_W2.out.trans (hb3.mono acc_W2.out.size))
      have sz_w3 : Hid (W2.heap.size ≤ w3.heap.size) := hidP hb3.size
      clear hb3 bk0_W2 bk1_W2 bkF_W2 bkL_W2 rs0_W2 rs1_W2 rsF_W2 rsL_W2 acc_W2
      have oL_w3 := hidP (OG.out)
      have lhL : Hid (∀ k, (Value.slice a3 n c3).ownBlock = some k → W2.heap.size ≤ k ∧ k < w3.heap.size) := hidP (fun k hk => OwnG.lt oL_w3.out k hk)
      clear OG
      go_wp2_with fail
      obtain ⟨ou0_W4, ou1_W4⟩ := box2D w3 26 (.slice a3 n c3) (.int .i64 N)
      have ouF_W4 : ∀ o, (w3.alloc (.cells #[.slice a3 n c3, .int .i64 N] 26)).frozen? ⟨w3.heap.size, o, none⟩ = false := fun o => by simp [go_sem]
      have ouL_W4 : w3.heap.size < (w3.alloc (.cells #[.slice a3 n c3, .int .i64 N] 26)).heap.size := by simp
      have ab_W4 := alloc_below w3 (.cells #[.slice a3 n c3, .int .i64 N] 26)
      have as_W4 : Hid ((w3.alloc (.cells #[.slice a3 n c3, .int .i64 N] 26)).heap.size = w3.heap.size + 1) := hidP (by simp)
      generalize w3.alloc (.cells #[.slice a3 n c3, .int .i64 N] 26) = W4 at *
      have bk0_W4 := (ab_W4.cell bkL_w3).trans bk0_w3
      have bk1_W4 := (ab_W4.cell bkL_w3).trans bk1_w3
      have bkF_W4 : ∀ o, W4.frozen? ⟨w.heap.size, o, none⟩ = false := fun o => (ab_W4.frozen bkL_w3).trans (bkF_w3 o)
      have bkL_W4 : w.heap.size < W4.heap.size := Nat.lt_of_lt_of_le bkL_w3 ab_W4.size
      have rs0_W4 := (ab_W4.cell rsL_w3).trans rs0_w3
      have rs1_W4 := (ab_W4.cell rsL_w3).trans rs1_w3
      have rsF_W4 : ∀ o, W4.frozen? ⟨w.heap.size + 1, o, none⟩ = false := fun o => (ab_W4.frozen rsL_w3).trans (rsF_w3 o)
      have rsL_W4 : w.heap.size + 1 < W4.heap.size := Nat.lt_of_lt_of_le rsL_w3 ab_W4.size
      have oL_W4 := hidP (OwnG.later oL_w3.out ab_W4)
      have acc_W4 := hidP (acc_w3.out.trans (ab_W4.mono acc_w3.out.size))
      have sz_W4 : Hid (w3.heap.size ≤ W4.heap.size) := hidP ab_W4.size
      clear ab_W4 bk0_w3 bk1_w3 bkF_w3 bkL_w3 rs0_w3 rs1_w3 rsF_w3 rsL_w3 oL_w3 acc_w3
      refine (HSp.out _ acc_W4.out).mono ?_
      rintro e w5 ⟨rfl, hb5⟩
      have bk0_w5 := (hb5.cell bkL_W4).trans bk0_W4
      have bk1_w5 := (hb5.cell bkL_W4).trans bk1_W4
      have bkF_w5 : ∀ o, w5.frozen? ⟨w.heap.size, o, none⟩ = false := fun o => (hb5.frozen bkL_W4).trans (bkF_W4 o)
      have bkL_w5 : w.heap.size < w5.heap.size := Nat.lt_of_lt_of_le bkL_W4 hb5.size
      have rs0_w5 := (hb5.cell rsL_W4).trans rs0_W4
      have rs1_w5 := (hb5.cell rsL_W4).trans rs1_W4
      have rsF_w5 : ∀ o, w5.frozen? ⟨w.heap.size + 1, o, none⟩ = false := fun o => (hb5.frozen rsL_W4).trans (rsF_W4 o)
      have rsL_w5 : w.heap.size + 1 < w5.heap.size := Nat.lt_of_lt_of_le rsL_W4 hb5.size
      have ou0_w5 := (hb5.cell ouL_W4).trans ou0_W4
      have ou1_w5 := (hb5.cell ouL_W4).trans ou1_W4
      have ouF_w5 : ∀ o, w5.frozen? ⟨w3.heap.size, o, none⟩ = false := fun o => (hb5.frozen ouL_W4).trans (ouF_W4 o)
      have ouL_w5 : w3.heap.size < w5.heap.size := Nat.lt_of_lt_of_le ouL_W4 hb5.size
      have oL_w5 := hidP (OwnG.later oL_W4.out hb5)
      have acc_w5 := hidP (acc_W4.out.trans (hb5.mono acc_W4.out.size))
      have sz_w5 : Hid (W4.heap.size ≤ w5.heap.size) := hidP hb5.size
      clear hb5 bk0_W4 bk1_W4 bkF_W4 bkL_W4 rs0_W4 rs1_W4 rsF_W4 rsL_W4 ou0_W4 ou1_W4 ouF_W4 ouL_W4 oL_W4 acc_W4
      go_wp2_with fail
      refine bodyPost_ret (v := .tuple #[.agg #[.slice a3 n c3, .int .i64 N], .int .i64 0]) (by simp [results, Try.results15, go_sem, rs0_w5, rs1_w5]) rfl ⟨_, _, rfl, ?_, ?_⟩
      · refine OwnG.mono (B := W2.heap.size) ?_ (by have := as_W1.out; have := sz_W1.out; have := as_W2.out; have := sz_W2.out; have := sz_w3.out; have := as_W4.out; have := sz_W4.out; have := sz_w5.out; omega)
        iterate 2 (with_reducible refine OwnG.grown ?_ (grown_cellG _ _ _ _) ?_; rotate_left; (focus (first | exact OwnG.ne_of oL_w5.out (by have := as_W1.out; have := sz_W1.out; have := as_W2.out; have := sz_W2.out; have := sz_w3.out; have := as_W4.out; have := sz_W4.out; have := sz_w5.out; omega))))
        with_reducible exact oL_w5.out
      · repeat (with_reducible refine Below.setCell ?_ ?_ _; rotate_left; (focus (first | (simp; done) | (simp; omega) | (dsimp only; have := as_W1.out; have := sz_W1.out; have := as_W2.out; have := sz_W2.out; have := sz_w3.out; have := as_W4.out; have := sz_W4.out; have := sz_w5.out; omega))))
        exact acc_w5.out

set_option maxRecDepth 10000 in
set_option maxHeartbeats 4000000 in
theorem sOp_yes (a : Option Addr) (n c : Nat) (N : Int) (ls : List Ss) (w : World) (hn : n = ls.length) (hB : RowG KSs w a ls) (hc : a = none → c = 0) (hl : n ≤ 1048576) (u : Int) (hr : (dkB ls N && (!((n : Int) == 12) && (!(N == 1000000) && tmB u))) = true) :
    Calls Try.prog 15 #[.agg #[.slice a n c, .int .i64 N], .int .i64 u] w fun e w' => ∃ a' c', e = .returned (.tuple #[.agg #[.slice a' (n + 1) c', .int .i64 (N + 1)], .int .i64 N]) ∧ OwnG KSs 39 w' w.heap.size (.slice a' (n + 1) c') (ls ++ [(⟨N, 0, ⟨#[]⟩, u⟩ : Ss)]) ∧ Below w.heap.size w w' := by
  have HCp := hidP (fun W h => l7Copy_any a n c N ls W hn (hB.later h) hc hl)
  have HSp := hidP (fun W e1 => sDeskOk_any a n c N ls W hn (hB.later e1) hl)
  have HT := hidP (l1In7_any u 0 1000000000)
  have HN := hidP hn
  clear hB hc
  simp only [Bool.and_eq_true, Bool.not_eq_true'] at hr
  obtain ⟨hb, h1, h2, h3⟩ := hr
  obtain ⟨hn12, hN0, hN1, _⟩ := dk_next hb
  rw [← hn] at hn12
  have hwN : IntKind.i64.wrap (N + 1) = N + 1 := by rw [IntKind.wrap_i64]; omega
  have h3' : (decide (0 ≤ u) && decide (u ≤ 1000000000)) = true := h3
  rw [hb] at HSp
  rw [h3'] at HT
  clear hn hb h3 h3'
  go_enter Try.func15, Try.ntmps15
  go_wp2_with fail
  obtain ⟨bk0_W1, bk1_W1⟩ := box2D w 26 (.slice a n c) (.int .i64 N)
  have bkF_W1 : ∀ o, (w.alloc (.cells #[.slice a n c, .int .i64 N] 26)).frozen? ⟨w.heap.size, o, none⟩ = false := fun o => by simp [go_sem]
  have bkL_W1 : w.heap.size < (w.alloc (.cells #[.slice a n c, .int .i64 N] 26)).heap.size := by simp
  have ab_W1 := alloc_below w (.cells #[.slice a n c, .int .i64 N] 26)
  have as_W1 : Hid ((w.alloc (.cells #[.slice a n c, .int .i64 N] 26)).heap.size = w.heap.size + 1) := hidP (by simp)
  generalize w.alloc (.cells #[.slice a n c, .int .i64 N] 26) = W1 at *
  have acc_W1 := hidP (ab_W1)
  have sz_W1 : Hid (w.heap.size ≤ W1.heap.size) := hidP ab_W1.size
  clear ab_W1 
  obtain ⟨rs0_W2, rs1_W2⟩ := box2D W1 26 (.slice none 0 0) (.int .i64 0)
  have rsF_W2 : ∀ o, (W1.alloc (.cells #[.slice none 0 0, .int .i64 0] 26)).frozen? ⟨W1.heap.size, o, none⟩ = false := fun o => by simp [go_sem]
  have rsL_W2 : W1.heap.size < (W1.alloc (.cells #[.slice none 0 0, .int .i64 0] 26)).heap.size := by simp
  have ab_W2 := alloc_below W1 (.cells #[.slice none 0 0, .int .i64 0] 26)
  have as_W2 : Hid ((W1.alloc (.cells #[.slice none 0 0, .int .i64 0] 26)).heap.size = W1.heap.size + 1) := hidP (by simp)
  generalize W1.alloc (.cells #[.slice none 0 0, .int .i64 0] 26) = W2 at *
  have bk0_W2 := (ab_W2.cell bkL_W1).trans bk0_W1
  have bk1_W2 := (ab_W2.cell bkL_W1).trans bk1_W1
  have bkF_W2 : ∀ o, W2.frozen? ⟨w.heap.size, o, none⟩ = false := fun o => (ab_W2.frozen bkL_W1).trans (bkF_W1 o)
  have bkL_W2 : w.heap.size < W2.heap.size := Nat.lt_of_lt_of_le bkL_W1 ab_W2.size
  have acc_W2 := hidP (acc_W1.out.trans (ab_W2.mono acc_W1.out.size))
  have sz_W2 : Hid (W1.heap.size ≤ W2.heap.size) := hidP ab_W2.size
  clear ab_W2 bk0_W1 bk1_W1 bkF_W1 bkL_W1 acc_W1
  rw [as_W1.out] at rs0_W2 rs1_W2 rsL_W2
  have rsF_W2' : ∀ o, W2.frozen? ⟨w.heap.size + 1, o, none⟩ = false := fun o => by have := rsF_W2 o; rw [as_W1.out] at this; exact this
  clear rsF_W2
  have rsF_W2 := rsF_W2'
  clear rsF_W2'
  refine (HCp.out _ acc_W2.out).mono ?_
  rintro e w3 ⟨a3, c3, rfl, og3, hb3⟩
  have OG := hidP og3
  clear og3
  have bk0_w3 := (hb3.cell bkL_W2).trans bk0_W2
  have bk1_w3 := (hb3.cell bkL_W2).trans bk1_W2
  have bkF_w3 : ∀ o, w3.frozen? ⟨w.heap.size, o, none⟩ = false := fun o => (hb3.frozen bkL_W2).trans (bkF_W2 o)
  have bkL_w3 : w.heap.size < w3.heap.size := Nat.lt_of_lt_of_le bkL_W2 hb3.size
  have rs0_w3 := (hb3.cell rsL_W2).trans rs0_W2
  have rs1_w3 := (hb3.cell rsL_W2).trans rs1_W2
  have rsF_w3 : ∀ o, w3.frozen? ⟨w.heap.size + 1, o, none⟩ = false := fun o => (hb3.frozen rsL_W2).trans (rsF_W2 o)
  have rsL_w3 : w.heap.size + 1 < w3.heap.size := Nat.lt_of_lt_of_le rsL_W2 hb3.size
  have acc_w3 := hidP (acc_W2.out.trans (hb3.mono acc_W2.out.size))
  have sz_w3 : Hid (W2.heap.size ≤ w3.heap.size) := hidP hb3.size
  clear hb3 bk0_W2 bk1_W2 bkF_W2 bkL_W2 rs0_W2 rs1_W2 rsF_W2 rsL_W2 acc_W2
  have oL_w3 := hidP (OG.out)
  have lhL : Hid (∀ k, (Value.slice a3 n c3).ownBlock = some k → W2.heap.size ≤ k ∧ k < w3.heap.size) := hidP (fun k hk => OwnG.lt oL_w3.out k hk)
  clear OG
  go_wp2_with fail
  obtain ⟨ou0_W4, ou1_W4⟩ := box2D w3 26 (.slice a3 n c3) (.int .i64 N)
  have ouF_W4 : ∀ o, (w3.alloc (.cells #[.slice a3 n c3, .int .i64 N] 26)).frozen? ⟨w3.heap.size, o, none⟩ = false := fun o => by simp [go_sem]
  have ouL_W4 : w3.heap.size < (w3.alloc (.cells #[.slice a3 n c3, .int .i64 N] 26)).heap.size := by simp
  have ab_W4 := alloc_below w3 (.cells #[.slice a3 n c3, .int .i64 N] 26)
  have as_W4 : Hid ((w3.alloc (.cells #[.slice a3 n c3, .int .i64 N] 26)).heap.size = w3.heap.size + 1) := hidP (by simp)
  generalize w3.alloc (.cells #[.slice a3 n c3, .int .i64 N] 26) = W4 at *
  have bk0_W4 := (ab_W4.cell bkL_w3).trans bk0_w3
  have bk1_W4 := (ab_W4.cell bkL_w3).trans bk1_w3
  have bkF_W4 : ∀ o, W4.frozen? ⟨w.heap.size, o, none⟩ = false := fun o => (ab_W4.frozen bkL_w3).trans (bkF_w3 o)
  have bkL_W4 : w.heap.size < W4.heap.size := Nat.lt_of_lt_of_le bkL_w3 ab_W4.size
  have rs0_W4 := (ab_W4.cell rsL_w3).trans rs0_w3
  have rs1_W4 := (ab_W4.cell rsL_w3).trans rs1_w3
  have rsF_W4 : ∀ o, W4.frozen? ⟨w.heap.size + 1, o, none⟩ = false := fun o => (ab_W4.frozen rsL_w3).trans (rsF_w3 o)
  have rsL_W4 : w.heap.size + 1 < W4.heap.size := Nat.lt_of_lt_of_le rsL_w3 ab_W4.size
  have oL_W4 := hidP (OwnG.later oL_w3.out ab_W4)
  have acc_W4 := hidP (acc_w3.out.trans (ab_W4.mono acc_w3.out.size))
  have sz_W4 : Hid (w3.heap.size ≤ W4.heap.size) := hidP ab_W4.size
  clear ab_W4 bk0_w3 bk1_w3 bkF_w3 bkL_w3 rs0_w3 rs1_w3 rsF_w3 rsL_w3 oL_w3 acc_w3
  refine (HSp.out _ acc_W4.out).mono ?_
  rintro e w5 ⟨rfl, hb5⟩
  have bk0_w5 := (hb5.cell bkL_W4).trans bk0_W4
  have bk1_w5 := (hb5.cell bkL_W4).trans bk1_W4
  have bkF_w5 : ∀ o, w5.frozen? ⟨w.heap.size, o, none⟩ = false := fun o => (hb5.frozen bkL_W4).trans (bkF_W4 o)
  have bkL_w5 : w.heap.size < w5.heap.size := Nat.lt_of_lt_of_le bkL_W4 hb5.size
  have rs0_w5 := (hb5.cell rsL_W4).trans rs0_W4
  have rs1_w5 := (hb5.cell rsL_W4).trans rs1_W4
  have rsF_w5 : ∀ o, w5.frozen? ⟨w.heap.size + 1, o, none⟩ = false := fun o => (hb5.frozen rsL_W4).trans (rsF_W4 o)
  have rsL_w5 : w.heap.size + 1 < w5.heap.size := Nat.lt_of_lt_of_le rsL_W4 hb5.size
  have ou0_w5 := (hb5.cell ouL_W4).trans ou0_W4
  have ou1_w5 := (hb5.cell ouL_W4).trans ou1_W4
  have ouF_w5 : ∀ o, w5.frozen? ⟨w3.heap.size, o, none⟩ = false := fun o => (hb5.frozen ouL_W4).trans (ouF_W4 o)
  have ouL_w5 : w3.heap.size < w5.heap.size := Nat.lt_of_lt_of_le ouL_W4 hb5.size
  have oL_w5 := hidP (OwnG.later oL_W4.out hb5)
  have acc_w5 := hidP (acc_W4.out.trans (hb5.mono acc_W4.out.size))
  have sz_w5 : Hid (W4.heap.size ≤ w5.heap.size) := hidP hb5.size
  clear hb5 bk0_W4 bk1_W4 bkF_W4 bkL_W4 rs0_W4 rs1_W4 rsF_W4 rsL_W4 ou0_W4 ou1_W4 ouF_W4 ouL_W4 oL_W4 acc_W4
  go_wp2_with fail
  refine (HT.out _).mono ?_
  rintro e w6 ⟨rfl, hw6⟩
  rw [hw6]
  clear hw6 w6
  go_wp2_with (at_builtin; refine stp ?_)
  unfold Stp
  have one : OwnG KSs 39 (w5.alloc (.cells #[.int .i64 N, .int .i64 0, .string ⟨#[]⟩, .int .i64 u] 39)) 0 (.slice (some ⟨w5.heap.size, 0, none⟩) 1 1) [(⟨N, 0, ⟨#[]⟩, u⟩ : Ss)] := own_oneG KSs w5 0 39 (⟨N, 0, ⟨#[]⟩, u⟩ : Ss) (Nat.zero_le _)
  have ONE := hidP one
  clear one
  have ab6 := alloc_below w5 (.cells #[.int .i64 N, .int .i64 0, .string ⟨#[]⟩, .int .i64 u] 39)
  have as6 : Hid ((w5.alloc (.cells #[.int .i64 N, .int .i64 0, .string ⟨#[]⟩, .int .i64 u] 39)).heap.size = w5.heap.size + 1) := hidP (by simp)
  generalize w5.alloc (.cells #[.int .i64 N, .int .i64 0, .string ⟨#[]⟩, .int .i64 u] 39) = W6 at *
  have bk0_W6 := (ab6.cell bkL_w5).trans bk0_w5
  have bk1_W6 := (ab6.cell bkL_w5).trans bk1_w5
  have bkF_W6 : ∀ o, W6.frozen? ⟨w.heap.size, o, none⟩ = false := fun o => (ab6.frozen bkL_w5).trans (bkF_w5 o)
  have bkL_W6 : w.heap.size < W6.heap.size := Nat.lt_of_lt_of_le bkL_w5 ab6.size
  have rs0_W6 := (ab6.cell rsL_w5).trans rs0_w5
  have rs1_W6 := (ab6.cell rsL_w5).trans rs1_w5
  have rsF_W6 : ∀ o, W6.frozen? ⟨w.heap.size + 1, o, none⟩ = false := fun o => (ab6.frozen rsL_w5).trans (rsF_w5 o)
  have rsL_W6 : w.heap.size + 1 < W6.heap.size := Nat.lt_of_lt_of_le rsL_w5 ab6.size
  have ou0_W6 := (ab6.cell ouL_w5).trans ou0_w5
  have ou1_W6 := (ab6.cell ouL_w5).trans ou1_w5
  have ouF_W6 : ∀ o, W6.frozen? ⟨w3.heap.size, o, none⟩ = false := fun o => (ab6.frozen ouL_w5).trans (ouF_w5 o)
  have ouL_W6 : w3.heap.size < W6.heap.size := Nat.lt_of_lt_of_le ouL_w5 ab6.size
  have oL_W6 := hidP (OwnG.later oL_w5.out ab6)
  have acc_W6 := hidP (acc_w5.out.trans (ab6.mono acc_w5.out.size))
  have sz_W6 : Hid (w5.heap.size ≤ W6.heap.size) := hidP ab6.size
  clear ab6 bk0_w5 bk1_w5 bkF_w5 bkL_w5 rs0_w5 rs1_w5 rsF_w5 rsL_w5 ou0_w5 ou1_w5 ouF_w5 ouL_w5 oL_w5 acc_w5
  refine wpList_appG Try.tySs _ rfl (.tmp 30) (.tmp 35) 24 rfl W2.heap.size a3 n c3 1 ls [(⟨N, 0, ⟨#[]⟩, u⟩ : Ss)] (.slice (some ⟨w5.heap.size, 0, none⟩) 1 1) rfl HN.out rfl oL_W6.out rfl (src_rowG Try.tySs.1 1 1 (by show 0 < 4; omega) rfl ONE.out.row (fun h => by cases h)) (by omega) (by have := as_W1.out; have := sz_W1.out; have := as_W2.out; have := sz_W2.out; have := sz_w3.out; have := as_W4.out; have := sz_W4.out; have := sz_w5.out; have := as6.out; have := sz_W6.out; omega) ?_
  intro a9 c9 w9 ho9 hg9 ht9
  have OA := hidP ho9
  have NE9 : Hid (∀ k, (Value.slice a9 (n + 1) c9).ownBlock = some k → k ≠ w3.heap.size) := hidP (app_ne ht9 (fun k hk => (lhL.out k hk).2) (Nat.le_refl _) (by have := as_W1.out; have := sz_W1.out; have := as_W2.out; have := sz_W2.out; have := sz_w3.out; have := as_W4.out; have := sz_W4.out; have := sz_w5.out; have := as6.out; have := sz_W6.out; omega))
  clear ho9 ht9 ONE
  have nebk : ∀ k, (Value.slice a3 n c3).ownBlock = some k → k ≠ w.heap.size := fun k hk => by have h5 := lhL.out k hk; have := as_W1.out; have := sz_W1.out; have := as_W2.out; have := sz_W2.out; have := sz_w3.out; have := as_W4.out; have := sz_W4.out; have := sz_w5.out; have := as6.out; have := sz_W6.out; omega
  have bk0_w9 := cell_grown hg9 bk0_W6 nebk
  have bk1_w9 := cell_grown hg9 bk1_W6 nebk
  have bkF_w9 : ∀ o, w9.frozen? ⟨w.heap.size, o, none⟩ = false := fun o => frz_grown hg9 bkL_W6 (bkF_W6 o) nebk
  have bkL_w9 : w.heap.size < w9.heap.size := Nat.lt_of_lt_of_le bkL_W6 hg9.size
  have ners : ∀ k, (Value.slice a3 n c3).ownBlock = some k → k ≠ w.heap.size + 1 := fun k hk => by have h5 := lhL.out k hk; have := as_W1.out; have := sz_W1.out; have := as_W2.out; have := sz_W2.out; have := sz_w3.out; have := as_W4.out; have := sz_W4.out; have := sz_w5.out; have := as6.out; have := sz_W6.out; omega
  have rs0_w9 := cell_grown hg9 rs0_W6 ners
  have rs1_w9 := cell_grown hg9 rs1_W6 ners
  have rsF_w9 : ∀ o, w9.frozen? ⟨w.heap.size + 1, o, none⟩ = false := fun o => frz_grown hg9 rsL_W6 (rsF_W6 o) ners
  have rsL_w9 : w.heap.size + 1 < w9.heap.size := Nat.lt_of_lt_of_le rsL_W6 hg9.size
  have neou : ∀ k, (Value.slice a3 n c3).ownBlock = some k → k ≠ w3.heap.size := fun k hk => by have h5 := lhL.out k hk; have := as_W1.out; have := sz_W1.out; have := as_W2.out; have := sz_W2.out; have := sz_w3.out; have := as_W4.out; have := sz_W4.out; have := sz_w5.out; have := as6.out; have := sz_W6.out; omega
  have ou0_w9 := cell_grown hg9 ou0_W6 neou
  have ou1_w9 := cell_grown hg9 ou1_W6 neou
  have ouF_w9 : ∀ o, w9.frozen? ⟨w3.heap.size, o, none⟩ = false := fun o => frz_grown hg9 ouL_W6 (ouF_W6 o) neou
  have ouL_w9 : w3.heap.size < w9.heap.size := Nat.lt_of_lt_of_le ouL_W6 hg9.size
  have oL_w9 := hidP (OA.out)
  have acc_w9 := hidP (Below.grown acc_W6.out hg9 acc_W6.out.size (fun k hk => by have h5 := lhL.out k hk; have := as_W1.out; have := sz_W1.out; have := as_W2.out; have := sz_W2.out; have := sz_w3.out; have := as_W4.out; have := sz_W4.out; have := sz_w5.out; have := as6.out; have := sz_W6.out; omega))
  have sz_w9 : Hid (W6.heap.size ≤ w9.heap.size) := hidP hg9.size
  clear hg9 bk0_W6 bk1_W6 bkF_W6 bkL_W6 nebk rs0_W6 rs1_W6 rsF_W6 rsL_W6 ners ou0_W6 ou1_W6 ouF_W6 ouL_W6 neou oL_W6 acc_W6
  clear OA
  have nA0 : ¬ (w3.heap.size = w.heap.size) := (by have := as_W1.out; have := sz_W1.out; have := as_W2.out; have := sz_W2.out; have := sz_w3.out; have := as_W4.out; have := sz_W4.out; have := sz_w5.out; have := as6.out; have := sz_W6.out; have := sz_w9.out; omega)
  have nB0 : ¬ (w.heap.size = w3.heap.size) := (by have := as_W1.out; have := sz_W1.out; have := as_W2.out; have := sz_W2.out; have := sz_w3.out; have := as_W4.out; have := sz_W4.out; have := sz_w5.out; have := as6.out; have := sz_W6.out; have := sz_w9.out; omega)
  have nA1 : ¬ (w3.heap.size = w.heap.size + 1) := (by have := as_W1.out; have := sz_W1.out; have := as_W2.out; have := sz_W2.out; have := sz_w3.out; have := as_W4.out; have := sz_W4.out; have := sz_w5.out; have := as6.out; have := sz_W6.out; have := sz_w9.out; omega)
  have nB1 : ¬ (w.heap.size + 1 = w3.heap.size) := (by have := as_W1.out; have := sz_W1.out; have := as_W2.out; have := sz_W2.out; have := sz_w3.out; have := as_W4.out; have := sz_W4.out; have := sz_w5.out; have := as6.out; have := sz_W6.out; have := sz_w9.out; omega)
  go_wp2_with fail
  have ou0_V : ((w9.setCell ⟨w3.heap.size, 0, none⟩ (.slice a9 (n + 1) c9)).setCell ⟨w3.heap.size, 1, none⟩ (.int .i64 (N + 1))).cell? ⟨w3.heap.size, 0, none⟩ = some (.slice a9 (n + 1) c9) := by simp [go_sem, ou0_w9]
  have ou1_V : ((w9.setCell ⟨w3.heap.size, 0, none⟩ (.slice a9 (n + 1) c9)).setCell ⟨w3.heap.size, 1, none⟩ (.int .i64 (N + 1))).cell? ⟨w3.heap.size, 1, none⟩ = some (.int .i64 (N + 1)) := by simp [go_sem, ou1_w9]
  have bk0_V : ((w9.setCell ⟨w3.heap.size, 0, none⟩ (.slice a9 (n + 1) c9)).setCell ⟨w3.heap.size, 1, none⟩ (.int .i64 (N + 1))).cell? ⟨w.heap.size, 0, none⟩ = some (.slice a n c) := cell_set1 (cell_set1 (bk0_w9) (by have := as_W1.out; have := sz_W1.out; have := as_W2.out; have := sz_W2.out; have := sz_w3.out; have := as_W4.out; have := sz_W4.out; have := sz_w5.out; have := as6.out; have := sz_W6.out; have := sz_w9.out; omega)) (by have := as_W1.out; have := sz_W1.out; have := as_W2.out; have := sz_W2.out; have := sz_w3.out; have := as_W4.out; have := sz_W4.out; have := sz_w5.out; have := as6.out; have := sz_W6.out; have := sz_w9.out; omega)
  have bk1_V : ((w9.setCell ⟨w3.heap.size, 0, none⟩ (.slice a9 (n + 1) c9)).setCell ⟨w3.heap.size, 1, none⟩ (.int .i64 (N + 1))).cell? ⟨w.heap.size, 1, none⟩ = some (.int .i64 N) := cell_set1 (cell_set1 (bk1_w9) (by have := as_W1.out; have := sz_W1.out; have := as_W2.out; have := sz_W2.out; have := sz_w3.out; have := as_W4.out; have := sz_W4.out; have := sz_w5.out; have := as6.out; have := sz_W6.out; have := sz_w9.out; omega)) (by have := as_W1.out; have := sz_W1.out; have := as_W2.out; have := sz_W2.out; have := sz_w3.out; have := as_W4.out; have := sz_W4.out; have := sz_w5.out; have := as6.out; have := sz_W6.out; have := sz_w9.out; omega)
  have bkF_V : ∀ o, ((w9.setCell ⟨w3.heap.size, 0, none⟩ (.slice a9 (n + 1) c9)).setCell ⟨w3.heap.size, 1, none⟩ (.int .i64 (N + 1))).frozen? ⟨w.heap.size, o, none⟩ = false := fun o => frz_set1 (frz_set1 ((bkF_w9 o)))
  have bkL_V : w.heap.size < ((w9.setCell ⟨w3.heap.size, 0, none⟩ (.slice a9 (n + 1) c9)).setCell ⟨w3.heap.size, 1, none⟩ (.int .i64 (N + 1))).heap.size := by simpa using bkL_w9
  have rs0_V : ((w9.setCell ⟨w3.heap.size, 0, none⟩ (.slice a9 (n + 1) c9)).setCell ⟨w3.heap.size, 1, none⟩ (.int .i64 (N + 1))).cell? ⟨w.heap.size + 1, 0, none⟩ = some (.slice none 0 0) := cell_set1 (cell_set1 (rs0_w9) (by have := as_W1.out; have := sz_W1.out; have := as_W2.out; have := sz_W2.out; have := sz_w3.out; have := as_W4.out; have := sz_W4.out; have := sz_w5.out; have := as6.out; have := sz_W6.out; have := sz_w9.out; omega)) (by have := as_W1.out; have := sz_W1.out; have := as_W2.out; have := sz_W2.out; have := sz_w3.out; have := as_W4.out; have := sz_W4.out; have := sz_w5.out; have := as6.out; have := sz_W6.out; have := sz_w9.out; omega)
  have rs1_V : ((w9.setCell ⟨w3.heap.size, 0, none⟩ (.slice a9 (n + 1) c9)).setCell ⟨w3.heap.size, 1, none⟩ (.int .i64 (N + 1))).cell? ⟨w.heap.size + 1, 1, none⟩ = some (.int .i64 0) := cell_set1 (cell_set1 (rs1_w9) (by have := as_W1.out; have := sz_W1.out; have := as_W2.out; have := sz_W2.out; have := sz_w3.out; have := as_W4.out; have := sz_W4.out; have := sz_w5.out; have := as6.out; have := sz_W6.out; have := sz_w9.out; omega)) (by have := as_W1.out; have := sz_W1.out; have := as_W2.out; have := sz_W2.out; have := sz_w3.out; have := as_W4.out; have := sz_W4.out; have := sz_w5.out; have := as6.out; have := sz_W6.out; have := sz_w9.out; omega)
  have rsF_V : ∀ o, ((w9.setCell ⟨w3.heap.size, 0, none⟩ (.slice a9 (n + 1) c9)).setCell ⟨w3.heap.size, 1, none⟩ (.int .i64 (N + 1))).frozen? ⟨w.heap.size + 1, o, none⟩ = false := fun o => frz_set1 (frz_set1 ((rsF_w9 o)))
  have rsL_V : w.heap.size + 1 < ((w9.setCell ⟨w3.heap.size, 0, none⟩ (.slice a9 (n + 1) c9)).setCell ⟨w3.heap.size, 1, none⟩ (.int .i64 (N + 1))).heap.size := by simpa using rsL_w9
  have ouF_V : ∀ o, ((w9.setCell ⟨w3.heap.size, 0, none⟩ (.slice a9 (n + 1) c9)).setCell ⟨w3.heap.size, 1, none⟩ (.int .i64 (N + 1))).frozen? ⟨w3.heap.size, o, none⟩ = false := fun o => frz_set1 (frz_set1 ((ouF_w9 o)))
  have ouL_V : w3.heap.size < ((w9.setCell ⟨w3.heap.size, 0, none⟩ (.slice a9 (n + 1) c9)).setCell ⟨w3.heap.size, 1, none⟩ (.int .i64 (N + 1))).heap.size := by simpa using ouL_w9
  have oL_V : Hid (OwnG KSs 39 ((w9.setCell ⟨w3.heap.size, 0, none⟩ (.slice a9 (n + 1) c9)).setCell ⟨w3.heap.size, 1, none⟩ (.int .i64 (N + 1))) (W2.heap.size) (.slice a9 (n + 1) c9) (ls ++ [(⟨N, 0, ⟨#[]⟩, u⟩ : Ss)])) := hidP (OwnG.grown (OwnG.grown (oL_w9.out) (grown_cellG _ _ _ _) (fun k hk e => NE9.out k hk (by cases e; rfl))) (grown_cellG _ _ _ _) (fun k hk e => NE9.out k hk (by cases e; rfl)))
  have acc_V : Hid (Below w.heap.size w ((w9.setCell ⟨w3.heap.size, 0, none⟩ (.slice a9 (n + 1) c9)).setCell ⟨w3.heap.size, 1, none⟩ (.int .i64 (N + 1)))) := hidP (Below.setCell (Below.setCell (acc_w9.out) (by have := as_W1.out; have := sz_W1.out; have := as_W2.out; have := sz_W2.out; have := sz_w3.out; have := as_W4.out; have := sz_W4.out; have := sz_w5.out; have := as6.out; have := sz_W6.out; have := sz_w9.out; try dsimp only; omega) _) (by have := as_W1.out; have := sz_W1.out; have := as_W2.out; have := sz_W2.out; have := sz_w3.out; have := as_W4.out; have := sz_W4.out; have := sz_w5.out; have := as6.out; have := sz_W6.out; have := sz_w9.out; try dsimp only; omega) _)
  have sz_V : Hid (((w9.setCell ⟨w3.heap.size, 0, none⟩ (.slice a9 (n + 1) c9)).setCell ⟨w3.heap.size, 1, none⟩ (.int .i64 (N + 1))).heap.size = w9.heap.size) := hidP (by simp)
  generalize (w9.setCell ⟨w3.heap.size, 0, none⟩ (.slice a9 (n + 1) c9)).setCell ⟨w3.heap.size, 1, none⟩ (.int .i64 (N + 1)) = V at *
  clear ou0_w9 ou1_w9 bk0_w9 bk1_w9 bkF_w9 bkL_w9 rs0_w9 rs1_w9 rsF_w9 rsL_w9 ouF_w9 ouL_w9 oL_w9 acc_w9
  go_region
  all_goals
    go_wp2_with fail
    refine bodyPost_ret (v := .tuple #[.agg #[.slice a9 (n + 1) c9, .int .i64 (N + 1)], .int .i64 N]) (by simp [results, Try.results15, go_sem, rs0_V, rs1_V]) rfl ⟨_, _, rfl, ?_, ?_⟩
    · refine OwnG.mono (B := W2.heap.size) ?_ (by have := as_W1.out; have := sz_W1.out; have := as_W2.out; have := sz_W2.out; have := sz_w3.out; have := as_W4.out; have := sz_W4.out; have := sz_w5.out; have := as6.out; have := sz_W6.out; have := sz_w9.out; have := sz_V.out; omega)
      refine OwnG.drewG ?_
      iterate 2 (with_reducible refine OwnG.grown ?_ (grown_cellG _ _ _ _) ?_; rotate_left; (focus (first | exact OwnG.ne_of oL_V.out (by have := as_W1.out; have := sz_W1.out; have := as_W2.out; have := sz_W2.out; have := sz_w3.out; have := as_W4.out; have := sz_W4.out; have := sz_w5.out; have := as6.out; have := sz_W6.out; have := sz_w9.out; have := sz_V.out; omega))))
      with_reducible exact oL_V.out
    · refine Below.drew ?_; repeat (with_reducible refine Below.setCell ?_ ?_ _; rotate_left; (focus (first | (simp; done) | (simp; omega) | (dsimp only; have := as_W1.out; have := sz_W1.out; have := as_W2.out; have := sz_W2.out; have := sz_w3.out; have := as_W4.out; have := sz_W4.out; have := sz_w5.out; have := as6.out; have := sz_W6.out; have := sz_w9.out; have := sz_V.out; omega))))
      exact acc_V.out

end Go.Proofs.Ytjenbmiiikeenaa
