/-
  The specification's FileCrash.
-/
import Derived.Test.YtfhlplpiojhhmaaX11
namespace Go.Proofs.Ytfhlplpiojhhmaa
open Go.RowKit

set_option maxRecDepth 10000 in
set_option maxHeartbeats 4000000 in
theorem sCr_no (a : Option Addr) (n c : Nat) (N : Int) (zs : List Int) (w : World) (hn : n = zs.length) (hB : RowG KBy w a zs) (hc : a = none → c = 0) (hl : n ≤ 1048576) (K : Int) (hr : okF n N = false) :
    Calls Try.prog 24 #[.agg #[.slice a n c, .int .i64 N], .int .i64 K] w fun e w' => ∃ a' c', e = .returned (.agg #[.slice a' n c', .int .i64 N]) ∧ OwnG KBy 5 w' w.heap.size (.slice a' n c') (zs) ∧ Below w.heap.size w w' := by
  have HCp := hidP (fun W h => l11Copy_any a n c N zs W hn (hB.later h) hc hl)
  have HSp := hidP (fun W => sFileOk_any a n c N W)
  rw [hr] at HSp
  clear hB hn hr hc
  go_enter Try.func24, Try.ntmps24
  go_wp2_with fail
  obtain ⟨bk0_W1, bk1_W1⟩ := box2D w 25 (.slice a n c) (.int .i64 N)
  have bkF_W1 : ∀ o, (w.alloc (.cells #[.slice a n c, .int .i64 N] 25)).frozen? ⟨w.heap.size, o, none⟩ = false := fun o => by simp [go_sem]
  have bkL_W1 : w.heap.size < (w.alloc (.cells #[.slice a n c, .int .i64 N] 25)).heap.size := by simp
  have ab_W1 := alloc_below w (.cells #[.slice a n c, .int .i64 N] 25)
  have as_W1 : Hid ((w.alloc (.cells #[.slice a n c, .int .i64 N] 25)).heap.size = w.heap.size + 1) := hidP (by simp)
  generalize w.alloc (.cells #[.slice a n c, .int .i64 N] 25) = W1 at *
  have acc_W1 := hidP (ab_W1)
  have sz_W1 : Hid (w.heap.size ≤ W1.heap.size) := hidP ab_W1.size
  clear ab_W1 
  obtain ⟨rs0_W2, rs1_W2⟩ := box2D W1 25 (.slice none 0 0) (.int .i64 0)
  have rsF_W2 : ∀ o, (W1.alloc (.cells #[.slice none 0 0, .int .i64 0] 25)).frozen? ⟨W1.heap.size, o, none⟩ = false := fun o => by simp [go_sem]
  have rsL_W2 : W1.heap.size < (W1.alloc (.cells #[.slice none 0 0, .int .i64 0] 25)).heap.size := by simp
  have ab_W2 := alloc_below W1 (.cells #[.slice none 0 0, .int .i64 0] 25)
  have as_W2 : Hid ((W1.alloc (.cells #[.slice none 0 0, .int .i64 0] 25)).heap.size = W1.heap.size + 1) := hidP (by simp)
  generalize W1.alloc (.cells #[.slice none 0 0, .int .i64 0] 25) = W2 at *
  have bk0_W2 := (ab_W2.cell bkL_W1).trans bk0_W1
  have bk1_W2 := (ab_W2.cell bkL_W1).trans bk1_W1
  have bkF_W2 : ∀ o, W2.frozen? ⟨w.heap.size, o, none⟩ = false := fun o => (ab_W2.frozen bkL_W1).trans (bkF_W1 o)
  have bkL_W2 : w.heap.size < W2.heap.size := Nat.lt_of_lt_of_le bkL_W1 ab_W2.size
  have acc_W2 := hidP (acc_W1.out.trans (ab_W2.mono acc_W1.out.size))
  have sz_W2 : Hid (W1.heap.size ≤ W2.heap.size) := hidP ab_W2.size
  clear ab_W2 bk0_W1 bk1_W1 bkF_W1 bkL_W1 acc_W1
  rw [as_W1.out] at rs0_W2 rs1_W2 rsL_W2
  have rsF_W2' : ∀ o, W2.frozen? ⟨w.heap.size + 1, o, none⟩ = false := fun o => by have := rsF_W2 o; rw [as_W1.out] at this; exact this
  clear rsF_W2
  have rsF_W2 := rsF_W2'
  clear rsF_W2'
  refine (HCp.out _ acc_W2.out).mono ?_
  rintro e w3 ⟨a3, c3, rfl, og3, hb3⟩
  have OG := hidP og3
  clear og3
  have bk0_w3 := (hb3.cell bkL_W2).trans bk0_W2
  have bk1_w3 := (hb3.cell bkL_W2).trans bk1_W2
  have bkF_w3 : ∀ o, w3.frozen? ⟨w.heap.size, o, none⟩ = false := fun o => (hb3.frozen bkL_W2).trans (bkF_W2 o)
  have bkL_w3 : w.heap.size < w3.heap.size := Nat.lt_of_lt_of_le bkL_W2 hb3.size
  have rs0_w3 := (hb3.cell rsL_W2).trans rs0_W2
  have rs1_w3 := (hb3.cell rsL_W2).trans rs1_W2
  have rsF_w3 : ∀ o, w3.frozen? ⟨w.heap.size + 1, o, none⟩ = false := fun o => (hb3.frozen rsL_W2).trans (rsF_W2 o)
  have rsL_w3 : w.heap.size + 1 < w3.heap.size := Nat.lt_of_lt_of_le rsL_W2 hb3.size
  have acc_w3 := hidP (acc_W2.out.trans (hb3.mono acc_W2.out.size))
  have sz_w3 : Hid (W2.heap.size ≤ w3.heap.size) := hidP hb3.size
  clear hb3 bk0_W2 bk1_W2 bkF_W2 bkL_W2 rs0_W2 rs1_W2 rsF_W2 rsL_W2 acc_W2
  have oL_w3 := hidP (OG.out)
  have lhL : Hid (∀ k, (Value.slice a3 n c3).ownBlock = some k → W2.heap.size ≤ k ∧ k < w3.heap.size) := hidP (fun k hk => OwnG.lt oL_w3.out k hk)
  clear OG
  go_wp2_with fail
  obtain ⟨ou0_W4, ou1_W4⟩ := box2D w3 25 (.slice a3 n c3) (.int .i64 N)
  have ouF_W4 : ∀ o, (w3.alloc (.cells #[.slice a3 n c3, .int .i64 N] 25)).frozen? ⟨w3.heap.size, o, none⟩ = false := fun o => by simp [go_sem]
  have ouL_W4 : w3.heap.size < (w3.alloc (.cells #[.slice a3 n c3, .int .i64 N] 25)).heap.size := by simp
  have ab_W4 := alloc_below w3 (.cells #[.slice a3 n c3, .int .i64 N] 25)
  have as_W4 : Hid ((w3.alloc (.cells #[.slice a3 n c3, .int .i64 N] 25)).heap.size = w3.heap.size + 1) := hidP (by simp)
  generalize w3.alloc (.cells #[.slice a3 n c3, .int .i64 N] 25) = W4 at *
  have bk0_W4 := (ab_W4.cell bkL_w3).trans bk0_w3
  have bk1_W4 := (ab_W4.cell bkL_w3).trans bk1_w3
  have bkF_W4 : ∀ o, W4.frozen? ⟨w.heap.size, o, none⟩ = false := fun o => (ab_W4.frozen bkL_w3).trans (bkF_w3 o)
  have bkL_W4 : w.heap.size < W4.heap.size := Nat.lt_of_lt_of_le bkL_w3 ab_W4.size
  have rs0_W4 := (ab_W4.cell rsL_w3).trans rs0_w3
  have rs1_W4 := (ab_W4.cell rsL_w3).trans rs1_w3
  have rsF_W4 : ∀ o, W4.frozen? ⟨w.heap.size + 1, o, none⟩ = false := fun o => (ab_W4.frozen rsL_w3).trans (rsF_w3 o)
  have rsL_W4 : w.heap.size + 1 < W4.heap.size := Nat.lt_of_lt_of_le rsL_w3 ab_W4.size
  have oL_W4 := hidP (OwnG.later oL_w3.out ab_W4)
  have acc_W4 := hidP (acc_w3.out.trans (ab_W4.mono acc_w3.out.size))
  have sz_W4 : Hid (w3.heap.size ≤ W4.heap.size) := hidP ab_W4.size
  clear ab_W4 bk0_w3 bk1_w3 bkF_w3 bkL_w3 rs0_w3 rs1_w3 rsF_w3 rsL_w3 oL_w3 acc_w3
  refine (HSp.out _).mono ?_
  rintro e w5 ⟨rfl, hb5⟩
  have bk0_w5 := (hb5.cell bkL_W4).trans bk0_W4
  have bk1_w5 := (hb5.cell bkL_W4).trans bk1_W4
  have bkF_w5 : ∀ o, w5.frozen? ⟨w.heap.size, o, none⟩ = false := fun o => (hb5.frozen bkL_W4).trans (bkF_W4 o)
  have bkL_w5 : w.heap.size < w5.heap.size := Nat.lt_of_lt_of_le bkL_W4 hb5.size
  have rs0_w5 := (hb5.cell rsL_W4).trans rs0_W4
  have rs1_w5 := (hb5.cell rsL_W4).trans rs1_W4
  have rsF_w5 : ∀ o, w5.frozen? ⟨w.heap.size + 1, o, none⟩ = false := fun o => (hb5.frozen rsL_W4).trans (rsF_W4 o)
  have rsL_w5 : w.heap.size + 1 < w5.heap.size := Nat.lt_of_lt_of_le rsL_W4 hb5.size
  have ou0_w5 := (hb5.cell ouL_W4).trans ou0_W4
  have ou1_w5 := (hb5.cell ouL_W4).trans ou1_W4
  have ouF_w5 : ∀ o, w5.frozen? ⟨w3.heap.size, o, none⟩ = false := fun o => (hb5.frozen ouL_W4).trans (ouF_W4 o)
  have ouL_w5 : w3.heap.size < w5.heap.size := Nat.lt_of_lt_of_le ouL_W4 hb5.size
  have oL_w5 := hidP (OwnG.later oL_W4.out hb5)
  have acc_w5 := hidP (acc_W4.out.trans (hb5.mono acc_W4.out.size))
  have sz_w5 : Hid (W4.heap.size ≤ w5.heap.size) := hidP hb5.size
  clear hb5 bk0_W4 bk1_W4 bkF_W4 bkL_W4 rs0_W4 rs1_W4 rsF_W4 rsL_W4 ou0_W4 ou1_W4 ouF_W4 ouL_W4 oL_W4 acc_W4
  have nA : ¬ (w3.heap.size = w.heap.size + 1) := by have := as_W1.out; have := sz_W1.out; have := as_W2.out; have := sz_W2.out; have := sz_w3.out; have := as_W4.out; have := sz_W4.out; have := sz_w5.out; omega
  have nB : ¬ (w.heap.size + 1 = w3.heap.size) := by omega
  have nC : ¬ (w3.heap.size = w.heap.size) := by have := as_W1.out; have := sz_W1.out; have := as_W2.out; have := sz_W2.out; have := sz_w3.out; have := as_W4.out; have := sz_W4.out; have := sz_w5.out; omega
  have nD : ¬ (w.heap.size = w3.heap.size) := by omega
  go_wp2_with fail
  refine bodyPost_ret (v := .agg #[.slice a3 n c3, .int .i64 N]) (by simp [results, Try.results24, go_sem, rs0_w5, rs1_w5]) rfl ⟨_, _, rfl, ?_, ?_⟩
  · refine OwnG.mono (B := W2.heap.size) ?_ (by have := as_W1.out; have := sz_W1.out; have := as_W2.out; have := sz_W2.out; have := sz_w3.out; have := as_W4.out; have := sz_W4.out; have := sz_w5.out; omega)
    iterate 2 (with_reducible refine OwnG.grown ?_ (grown_cellG _ _ _ _) ?_; rotate_left; (focus (first | exact OwnG.ne_of oL_w5.out (by have := as_W1.out; have := sz_W1.out; have := as_W2.out; have := sz_W2.out; have := sz_w3.out; have := as_W4.out; have := sz_W4.out; have := sz_w5.out; omega))))
    with_reducible exact oL_w5.out
  · repeat (with_reducible refine Below.setCell ?_ ?_ _; rotate_left; (focus (first | (simp; done) | (simp; omega) | (dsimp only; have := as_W1.out; have := sz_W1.out; have := as_W2.out; have := sz_W2.out; have := sz_w3.out; have := as_W4.out; have := sz_W4.out; have := sz_w5.out; omega))))
    exact acc_w5.out

set_option maxRecDepth 10000 in
set_option maxHeartbeats 4000000 in
theorem sCr_keepA (a : Option Addr) (n c : Nat) (N : Int) (zs : List Int) (w : World) (hn : n = zs.length) (hB : RowG KBy w a zs) (hc : a = none → c = 0) (hl : n ≤ 1048576) (K : Int) (hr : okF n N = true) (h1 : K < 0) (h2 : N = (n : Int)) :
    Calls Try.prog 24 #[.agg #[.slice a n c, .int .i64 N], .int .i64 K] w fun e w' => ∃ a' c', e = .returned (.agg #[.slice a' n c', .int .i64 n]) ∧ OwnG KBy 5 w' w.heap.size (.slice a' n c') (zs) ∧ Below w.heap.size w w' := by
  have HCp := hidP (fun W h => l11Copy_any a n c N zs W hn (hB.later h) hc hl)
  have HSp := hidP (fun W => sFileOk_any a n c N W)
  rw [hr] at HSp
  obtain ⟨k0, k1, k2⟩ := okF_yes hr
  have e2 : IntKind.i64.wrap ((n : Int) - N) = (n : Int) - N := by rw [IntKind.wrap_i64]; omega
  have d1 : ¬ ((0 : Int) < (n : Int) - N) := by omega
  have d2 : decide ((0 : Int) < (n : Int) - N) = false := decide_eq_false d1
  clear hB hn hr hc h2
  go_enter Try.func24, Try.ntmps24
  go_wp2_with fail
  obtain ⟨bk0_W1, bk1_W1⟩ := box2D w 25 (.slice a n c) (.int .i64 N)
  have bkF_W1 : ∀ o, (w.alloc (.cells #[.slice a n c, .int .i64 N] 25)).frozen? ⟨w.heap.size, o, none⟩ = false := fun o => by simp [go_sem]
  have bkL_W1 : w.heap.size < (w.alloc (.cells #[.slice a n c, .int .i64 N] 25)).heap.size := by simp
  have ab_W1 := alloc_below w (.cells #[.slice a n c, .int .i64 N] 25)
  have as_W1 : Hid ((w.alloc (.cells #[.slice a n c, .int .i64 N] 25)).heap.size = w.heap.size + 1) := hidP (by simp)
  generalize w.alloc (.cells #[.slice a n c, .int .i64 N] 25) = W1 at *
  have acc_W1 := hidP (ab_W1)
  have sz_W1 : Hid (w.heap.size ≤ W1.heap.size) := hidP ab_W1.size
  clear ab_W1 
  obtain ⟨rs0_W2, rs1_W2⟩ := box2D W1 25 (.slice none 0 0) (.int .i64 0)
  have rsF_W2 : ∀ o, (W1.alloc (.cells #[.slice none 0 0, .int .i64 0] 25)).frozen? ⟨W1.heap.size, o, none⟩ = false := fun o => by simp [go_sem]
  have rsL_W2 : W1.heap.size < (W1.alloc (.cells #[.slice none 0 0, .int .i64 0] 25)).heap.size := by simp
  have ab_W2 := alloc_below W1 (.cells #[.slice none 0 0, .int .i64 0] 25)
  have as_W2 : Hid ((W1.alloc (.cells #[.slice none 0 0, .int .i64 0] 25)).heap.size = W1.heap.size + 1) := hidP (by simp)
  generalize W1.alloc (.cells #[.slice none 0 0, .int .i64 0] 25) = W2 at *
  have bk0_W2 := (ab_W2.cell bkL_W1).trans bk0_W1
  have bk1_W2 := (ab_W2.cell bkL_W1).trans bk1_W1
  have bkF_W2 : ∀ o, W2.frozen? ⟨w.heap.size, o, none⟩ = false := fun o => (ab_W2.frozen bkL_W1).trans (bkF_W1 o)
  have bkL_W2 : w.heap.size < W2.heap.size := Nat.lt_of_lt_of_le bkL_W1 ab_W2.size
  have acc_W2 := hidP (acc_W1.out.trans (ab_W2.mono acc_W1.out.size))
  have sz_W2 : Hid (W1.heap.size ≤ W2.heap.size) := hidP ab_W2.size
  clear ab_W2 bk0_W1 bk1_W1 bkF_W1 bkL_W1 acc_W1
  rw [as_W1.out] at rs0_W2 rs1_W2 rsL_W2
  have rsF_W2' : ∀ o, W2.frozen? ⟨w.heap.size + 1, o, none⟩ = false := fun o => by have := rsF_W2 o; rw [as_W1.out] at this; exact this
  clear rsF_W2
  have rsF_W2 := rsF_W2'
  clear rsF_W2'
  refine (HCp.out _ acc_W2.out).mono ?_
  rintro e w3 ⟨a3, c3, rfl, og3, hb3⟩
  have OG := hidP og3
  clear og3
  have bk0_w3 := (hb3.cell bkL_W2).trans bk0_W2
  have bk1_w3 := (hb3.cell bkL_W2).trans bk1_W2
  have bkF_w3 : ∀ o, w3.frozen? ⟨w.heap.size, o, none⟩ = false := fun o => (hb3.frozen bkL_W2).trans (bkF_W2 o)
  have bkL_w3 : w.heap.size < w3.heap.size := Nat.lt_of_lt_of_le bkL_W2 hb3.size
  have rs0_w3 := (hb3.cell rsL_W2).trans rs0_W2
  have rs1_w3 := (hb3.cell rsL_W2).trans rs1_W2
  have rsF_w3 : ∀ o, w3.frozen? ⟨w.heap.size + 1, o, none⟩ = false := fun o => (hb3.frozen rsL_W2).trans (rsF_W2 o)
  have rsL_w3 : w.heap.size + 1 < w3.heap.size := Nat.lt_of_lt_of_le rsL_W2 hb3.size
  have acc_w3 := hidP (acc_W2.out.trans (hb3.mono acc_W2.out.size))
  have sz_w3 : Hid (W2.heap.size ≤ w3.heap.size) := hidP hb3.size
  clear hb3 bk0_W2 bk1_W2 bkF_W2 bkL_W2 rs0_W2 rs1_W2 rsF_W2 rsL_W2 acc_W2
  have oL_w3 := hidP (OG.out)
  have lhL : Hid (∀ k, (Value.slice a3 n c3).ownBlock = some k → W2.heap.size ≤ k ∧ k < w3.heap.size) := hidP (fun k hk => OwnG.lt oL_w3.out k hk)
  clear OG
  go_wp2_with fail
  obtain ⟨ou0_W4, ou1_W4⟩ := box2D w3 25 (.slice a3 n c3) (.int .i64 N)
  have ouF_W4 : ∀ o, (w3.alloc (.cells #[.slice a3 n c3, .int .i64 N] 25)).frozen? ⟨w3.heap.size, o, none⟩ = false := fun o => by simp [go_sem]
  have ouL_W4 : w3.heap.size < (w3.alloc (.cells #[.slice a3 n c3, .int .i64 N] 25)).heap.size := by simp
  have ab_W4 := alloc_below w3 (.cells #[.slice a3 n c3, .int .i64 N] 25)
  have as_W4 : Hid ((w3.alloc (.cells #[.slice a3 n c3, .int .i64 N] 25)).heap.size = w3.heap.size + 1) := hidP (by simp)
  generalize w3.alloc (.cells #[.slice a3 n c3, .int .i64 N] 25) = W4 at *
  have bk0_W4 := (ab_W4.cell bkL_w3).trans bk0_w3
  have bk1_W4 := (ab_W4.cell bkL_w3).trans bk1_w3
  have bkF_W4 : ∀ o, W4.frozen? ⟨w.heap.size, o, none⟩ = false := fun o => (ab_W4.frozen bkL_w3).trans (bkF_w3 o)
  have bkL_W4 : w.heap.size < W4.heap.size := Nat.lt_of_lt_of_le bkL_w3 ab_W4.size
  have rs0_W4 := (ab_W4.cell rsL_w3).trans rs0_w3
  have rs1_W4 := (ab_W4.cell rsL_w3).trans rs1_w3
  have rsF_W4 : ∀ o, W4.frozen? ⟨w.heap.size + 1, o, none⟩ = false := fun o => (ab_W4.frozen rsL_w3).trans (rsF_w3 o)
  have rsL_W4 : w.heap.size + 1 < W4.heap.size := Nat.lt_of_lt_of_le rsL_w3 ab_W4.size
  have oL_W4 := hidP (OwnG.later oL_w3.out ab_W4)
  have acc_W4 := hidP (acc_w3.out.trans (ab_W4.mono acc_w3.out.size))
  have sz_W4 : Hid (w3.heap.size ≤ W4.heap.size) := hidP ab_W4.size
  clear ab_W4 bk0_w3 bk1_w3 bkF_w3 bkL_w3 rs0_w3 rs1_w3 rsF_w3 rsL_w3 oL_w3 acc_w3
  refine (HSp.out _).mono ?_
  rintro e w5 ⟨rfl, hb5⟩
  have bk0_w5 := (hb5.cell bkL_W4).trans bk0_W4
  have bk1_w5 := (hb5.cell bkL_W4).trans bk1_W4
  have bkF_w5 : ∀ o, w5.frozen? ⟨w.heap.size, o, none⟩ = false := fun o => (hb5.frozen bkL_W4).trans (bkF_W4 o)
  have bkL_w5 : w.heap.size < w5.heap.size := Nat.lt_of_lt_of_le bkL_W4 hb5.size
  have rs0_w5 := (hb5.cell rsL_W4).trans rs0_W4
  have rs1_w5 := (hb5.cell rsL_W4).trans rs1_W4
  have rsF_w5 : ∀ o, w5.frozen? ⟨w.heap.size + 1, o, none⟩ = false := fun o => (hb5.frozen rsL_W4).trans (rsF_W4 o)
  have rsL_w5 : w.heap.size + 1 < w5.heap.size := Nat.lt_of_lt_of_le rsL_W4 hb5.size
  have ou0_w5 := (hb5.cell ouL_W4).trans ou0_W4
  have ou1_w5 := (hb5.cell ouL_W4).trans ou1_W4
  have ouF_w5 : ∀ o, w5.frozen? ⟨w3.heap.size, o, none⟩ = false := fun o => (hb5.frozen ouL_W4).trans (ouF_W4 o)
  have ouL_w5 : w3.heap.size < w5.heap.size := Nat.lt_of_lt_of_le ouL_W4 hb5.size
  have oL_w5 := hidP (OwnG.later oL_W4.out hb5)
  have acc_w5 := hidP (acc_W4.out.trans (hb5.mono acc_W4.out.size))
  have sz_w5 : Hid (W4.heap.size ≤ w5.heap.size) := hidP hb5.size
  clear hb5 bk0_W4 bk1_W4 bkF_W4 bkL_W4 rs0_W4 rs1_W4 rsF_W4 rsL_W4 ou0_W4 ou1_W4 ouF_W4 ouL_W4 oL_W4 acc_W4
  have nA : ¬ (w3.heap.size = w.heap.size + 1) := by have := as_W1.out; have := sz_W1.out; have := as_W2.out; have := sz_W2.out; have := sz_w3.out; have := as_W4.out; have := sz_W4.out; have := sz_w5.out; omega
  have nB : ¬ (w.heap.size + 1 = w3.heap.size) := by omega
  have nC : ¬ (w3.heap.size = w.heap.size) := by have := as_W1.out; have := sz_W1.out; have := as_W2.out; have := sz_W2.out; have := sz_w3.out; have := as_W4.out; have := sz_W4.out; have := sz_w5.out; omega
  have nD : ¬ (w.heap.size = w3.heap.size) := by omega
  go_wp2_with fail
  refine bodyPost_ret (v := .agg #[.slice a3 n c3, .int .i64 n]) (by simp [results, Try.results24, go_sem, rs0_w5, rs1_w5]) rfl ⟨_, _, rfl, ?_, ?_⟩
  · refine OwnG.mono (B := W2.heap.size) ?_ (by have := as_W1.out; have := sz_W1.out; have := as_W2.out; have := sz_W2.out; have := sz_w3.out; have := as_W4.out; have := sz_W4.out; have := sz_w5.out; omega)
    have NE9 : ∀ k, (Value.slice a3 n c3).ownBlock = some k → some w3.heap.size ≠ some k := fun k hk e => by have h5 := lhL.out k hk; have h6 := Option.some.inj e; omega
    iterate 3 (with_reducible refine OwnG.grown ?_ (grown_cellG _ _ _ _) ?_; rotate_left; (focus (first | exact OwnG.ne_of oL_w5.out (by have := as_W1.out; have := sz_W1.out; have := as_W2.out; have := sz_W2.out; have := sz_w3.out; have := as_W4.out; have := sz_W4.out; have := sz_w5.out; omega) | exact NE9)))
    with_reducible exact oL_w5.out
  · repeat (with_reducible refine Below.setCell ?_ ?_ _; rotate_left; (focus (first | (simp; done) | (simp; omega) | (dsimp only; have := as_W1.out; have := sz_W1.out; have := as_W2.out; have := sz_W2.out; have := sz_w3.out; have := as_W4.out; have := sz_W4.out; have := sz_w5.out; omega))))
    exact acc_w5.out

set_option maxRecDepth 10000 in
set_option maxHeartbeats 4000000 in
theorem sCr_keepB (a : Option Addr) (n c : Nat) (N : Int) (zs : List Int) (w : World) (hn : n = zs.length) (hB : RowG KBy w a zs) (hc : a = none → c = 0) (hl : n ≤ 1048576) (K : Int) (hr : okF n N = true) (h1 : 0 ≤ K) (h2 : (n : Int) - N ≤ K) :
    Calls Try.prog 24 #[.agg #[.slice a n c, .int .i64 N], .int .i64 K] w fun e w' => ∃ a' c', e = .returned (.agg #[.slice a' n c', .int .i64 n]) ∧ OwnG KBy 5 w' w.heap.size (.slice a' n c') (zs) ∧ Below w.heap.size w w' := by
  have HCp := hidP (fun W h => l11Copy_any a n c N zs W hn (hB.later h) hc hl)
  have HSp := hidP (fun W => sFileOk_any a n c N W)
  rw [hr] at HSp
  obtain ⟨k0, k1, k2⟩ := okF_yes hr
  have e2 : IntKind.i64.wrap ((n : Int) - N) = (n : Int) - N := by rw [IntKind.wrap_i64]; omega
  have d0 : ¬ (K < 0) := by omega
  have d1 : ¬ (K < (n : Int) - N) := by omega
  clear hB hn hr hc
  go_enter Try.func24, Try.ntmps24
  go_wp2_with fail
  obtain ⟨bk0_W1, bk1_W1⟩ := box2D w 25 (.slice a n c) (.int .i64 N)
  have bkF_W1 : ∀ o, (w.alloc (.cells #[.slice a n c, .int .i64 N] 25)).frozen? ⟨w.heap.size, o, none⟩ = false := fun o => by simp [go_sem]
  have bkL_W1 : w.heap.size < (w.alloc (.cells #[.slice a n c, .int .i64 N] 25)).heap.size := by simp
  have ab_W1 := alloc_below w (.cells #[.slice a n c, .int .i64 N] 25)
  have as_W1 : Hid ((w.alloc (.cells #[.slice a n c, .int .i64 N] 25)).heap.size = w.heap.size + 1) := hidP (by simp)
  generalize w.alloc (.cells #[.slice a n c, .int .i64 N] 25) = W1 at *
  have acc_W1 := hidP (ab_W1)
  have sz_W1 : Hid (w.heap.size ≤ W1.heap.size) := hidP ab_W1.size
  clear ab_W1 
  obtain ⟨rs0_W2, rs1_W2⟩ := box2D W1 25 (.slice none 0 0) (.int .i64 0)
  have rsF_W2 : ∀ o, (W1.alloc (.cells #[.slice none 0 0, .int .i64 0] 25)).frozen? ⟨W1.heap.size, o, none⟩ = false := fun o => by simp [go_sem]
  have rsL_W2 : W1.heap.size < (W1.alloc (.cells #[.slice none 0 0, .int .i64 0] 25)).heap.size := by simp
  have ab_W2 := alloc_below W1 (.cells #[.slice none 0 0, .int .i64 0] 25)
  have as_W2 : Hid ((W1.alloc (.cells #[.slice none 0 0, .int .i64 0] 25)).heap.size = W1.heap.size + 1) := hidP (by simp)
  generalize W1.alloc (.cells #[.slice none 0 0, .int .i64 0] 25) = W2 at *
  have bk0_W2 := (ab_W2.cell bkL_W1).trans bk0_W1
  have bk1_W2 := (ab_W2.cell bkL_W1).trans bk1_W1
  have bkF_W2 : ∀ o, W2.frozen? ⟨w.heap.size, o, none⟩ = false := fun o => (ab_W2.frozen bkL_W1).trans (bkF_W1 o)
  have bkL_W2 : w.heap.size < W2.heap.size := Nat.lt_of_lt_of_le bkL_W1 ab_W2.size
  have acc_W2 := hidP (acc_W1.out.trans (ab_W2.mono acc_W1.out.size))
  have sz_W2 : Hid (W1.heap.size ≤ W2.heap.size) := hidP ab_W2.size
  clear ab_W2 bk0_W1 bk1_W1 bkF_W1 bkL_W1 acc_W1
  rw [as_W1.out] at rs0_W2 rs1_W2 rsL_W2
  have rsF_W2' : ∀ o, W2.frozen? ⟨w.heap.size + 1, o, none⟩ = false := fun o => by have := rsF_W2 o; rw [as_W1.out] at this; exact this
  clear rsF_W2
  have rsF_W2 := rsF_W2'
  clear rsF_W2'
  refine (HCp.out _ acc_W2.out).mono ?_
  rintro e w3 ⟨a3, c3, rfl, og3, hb3⟩
  have OG := hidP og3
  clear og3
  have bk0_w3 := (hb3.cell bkL_W2).trans bk0_W2
  have bk1_w3 := (hb3.cell bkL_W2).trans bk1_W2
  have bkF_w3 : ∀ o, w3.frozen? ⟨w.heap.size, o, none⟩ = false := fun o => (hb3.frozen bkL_W2).trans (bkF_W2 o)
  have bkL_w3 : w.heap.size < w3.heap.size := Nat.lt_of_lt_of_le bkL_W2 hb3.size
  have rs0_w3 := (hb3.cell rsL_W2).trans rs0_W2
  have rs1_w3 := (hb3.cell rsL_W2).trans rs1_W2
  have rsF_w3 : ∀ o, w3.frozen? ⟨w.heap.size + 1, o, none⟩ = false := fun o => (hb3.frozen rsL_W2).trans (rsF_W2 o)
  have rsL_w3 : w.heap.size + 1 < w3.heap.size := Nat.lt_of_lt_of_le rsL_W2 hb3.size
  have acc_w3 := hidP (acc_W2.out.trans (hb3.mono acc_W2.out.size))
  have sz_w3 : Hid (W2.heap.size ≤ w3.heap.size) := hidP hb3.size
  clear hb3 bk0_W2 bk1_W2 bkF_W2 bkL_W2 rs0_W2 rs1_W2 rsF_W2 rsL_W2 acc_W2
  have oL_w3 := hidP (OG.out)
  have lhL : Hid (∀ k, (Value.slice a3 n c3).ownBlock = some k → W2.heap.size ≤ k ∧ k < w3.heap.size) := hidP (fun k hk => OwnG.lt oL_w3.out k hk)
  clear OG
  go_wp2_with fail
  obtain ⟨ou0_W4, ou1_W4⟩ := box2D w3 25 (.slice a3 n c3) (.int .i64 N)
  have ouF_W4 : ∀ o, (w3.alloc (.cells #[.slice a3 n c3, .int .i64 N] 25)).frozen? ⟨w3.heap.size, o, none⟩ = false := fun o => by simp [go_sem]
  have ouL_W4 : w3.heap.size < (w3.alloc (.cells #[.slice a3 n c3, .int .i64 N] 25)).heap.size := by simp
  have ab_W4 := alloc_below w3 (.cells #[.slice a3 n c3, .int .i64 N] 25)
  have as_W4 : Hid ((w3.alloc (.cells #[.slice a3 n c3, .int .i64 N] 25)).heap.size = w3.heap.size + 1) := hidP (by simp)
  generalize w3.alloc (.cells #[.slice a3 n c3, .int .i64 N] 25) = W4 at *
  have bk0_W4 := (ab_W4.cell bkL_w3).trans bk0_w3
  have bk1_W4 := (ab_W4.cell bkL_w3).trans bk1_w3
  have bkF_W4 : ∀ o, W4.frozen? ⟨w.heap.size, o, none⟩ = false := fun o => (ab_W4.frozen bkL_w3).trans (bkF_w3 o)
  have bkL_W4 : w.heap.size < W4.heap.size := Nat.lt_of_lt_of_le bkL_w3 ab_W4.size
  have rs0_W4 := (ab_W4.cell rsL_w3).trans rs0_w3
  have rs1_W4 := (ab_W4.cell rsL_w3).trans rs1_w3
  have rsF_W4 : ∀ o, W4.frozen? ⟨w.heap.size + 1, o, none⟩ = false := fun o => (ab_W4.frozen rsL_w3).trans (rsF_w3 o)
  have rsL_W4 : w.heap.size + 1 < W4.heap.size := Nat.lt_of_lt_of_le rsL_w3 ab_W4.size
  have oL_W4 := hidP (OwnG.later oL_w3.out ab_W4)
  have acc_W4 := hidP (acc_w3.out.trans (ab_W4.mono acc_w3.out.size))
  have sz_W4 : Hid (w3.heap.size ≤ W4.heap.size) := hidP ab_W4.size
  clear ab_W4 bk0_w3 bk1_w3 bkF_w3 bkL_w3 rs0_w3 rs1_w3 rsF_w3 rsL_w3 oL_w3 acc_w3
  refine (HSp.out _).mono ?_
  rintro e w5 ⟨rfl, hb5⟩
  have bk0_w5 := (hb5.cell bkL_W4).trans bk0_W4
  have bk1_w5 := (hb5.cell bkL_W4).trans bk1_W4
  have bkF_w5 : ∀ o, w5.frozen? ⟨w.heap.size, o, none⟩ = false := fun o => (hb5.frozen bkL_W4).trans (bkF_W4 o)
  have bkL_w5 : w.heap.size < w5.heap.size := Nat.lt_of_lt_of_le bkL_W4 hb5.size
  have rs0_w5 := (hb5.cell rsL_W4).trans rs0_W4
  have rs1_w5 := (hb5.cell rsL_W4).trans rs1_W4
  have rsF_w5 : ∀ o, w5.frozen? ⟨w.heap.size + 1, o, none⟩ = false := fun o => (hb5.frozen rsL_W4).trans (rsF_W4 o)
  have rsL_w5 : w.heap.size + 1 < w5.heap.size := Nat.lt_of_lt_of_le rsL_W4 hb5.size
  have ou0_w5 := (hb5.cell ouL_W4).trans ou0_W4
  have ou1_w5 := (hb5.cell ouL_W4).trans ou1_W4
  have ouF_w5 : ∀ o, w5.frozen? ⟨w3.heap.size, o, none⟩ = false := fun o => (hb5.frozen ouL_W4).trans (ouF_W4 o)
  have ouL_w5 : w3.heap.size < w5.heap.size := Nat.lt_of_lt_of_le ouL_W4 hb5.size
  have oL_w5 := hidP (OwnG.later oL_W4.out hb5)
  have acc_w5 := hidP (acc_W4.out.trans (hb5.mono acc_W4.out.size))
  have sz_w5 : Hid (W4.heap.size ≤ w5.heap.size) := hidP hb5.size
  clear hb5 bk0_W4 bk1_W4 bkF_W4 bkL_W4 rs0_W4 rs1_W4 rsF_W4 rsL_W4 ou0_W4 ou1_W4 ouF_W4 ouL_W4 oL_W4 acc_W4
  have nA : ¬ (w3.heap.size = w.heap.size + 1) := by have := as_W1.out; have := sz_W1.out; have := as_W2.out; have := sz_W2.out; have := sz_w3.out; have := as_W4.out; have := sz_W4.out; have := sz_w5.out; omega
  have nB : ¬ (w.heap.size + 1 = w3.heap.size) := by omega
  have nC : ¬ (w3.heap.size = w.heap.size) := by have := as_W1.out; have := sz_W1.out; have := as_W2.out; have := sz_W2.out; have := sz_w3.out; have := as_W4.out; have := sz_W4.out; have := sz_w5.out; omega
  have nD : ¬ (w.heap.size = w3.heap.size) := by omega
  go_wp2_with fail
  refine bodyPost_ret (v := .agg #[.slice a3 n c3, .int .i64 n]) (by simp [results, Try.results24, go_sem, rs0_w5, rs1_w5]) rfl ⟨_, _, rfl, ?_, ?_⟩
  · refine OwnG.mono (B := W2.heap.size) ?_ (by have := as_W1.out; have := sz_W1.out; have := as_W2.out; have := sz_W2.out; have := sz_w3.out; have := as_W4.out; have := sz_W4.out; have := sz_w5.out; omega)
    have NE9 : ∀ k, (Value.slice a3 n c3).ownBlock = some k → some w3.heap.size ≠ some k := fun k hk e => by have h5 := lhL.out k hk; have h6 := Option.some.inj e; omega
    iterate 3 (with_reducible refine OwnG.grown ?_ (grown_cellG _ _ _ _) ?_; rotate_left; (focus (first | exact OwnG.ne_of oL_w5.out (by have := as_W1.out; have := sz_W1.out; have := as_W2.out; have := sz_W2.out; have := sz_w3.out; have := as_W4.out; have := sz_W4.out; have := sz_w5.out; omega) | exact NE9)))
    with_reducible exact oL_w5.out
  · repeat (with_reducible refine Below.setCell ?_ ?_ _; rotate_left; (focus (first | (simp; done) | (simp; omega) | (dsimp only; have := as_W1.out; have := sz_W1.out; have := as_W2.out; have := sz_W2.out; have := sz_w3.out; have := as_W4.out; have := sz_W4.out; have := sz_w5.out; omega))))
    exact acc_w5.out

set_option maxRecDepth 10000 in
set_option maxHeartbeats 4000000 in
theorem sCr_cutA (a : Option Addr) (n c : Nat) (N : Int) (zs : List Int) (w : World) (hn : n = zs.length) (hB : RowG KBy w a zs) (hc : a = none → c = 0) (hl : n ≤ 1048576) (K : Int) (hr : okF n N = true) (h1 : K < 0) (h2 : N < (n : Int)) (L : Nat) (h3 : (L : Int) = N) :
    Calls Try.prog 24 #[.agg #[.slice a n c, .int .i64 N], .int .i64 K] w fun e w' => ∃ a' c', e = .returned (.agg #[.slice a' L c', .int .i64 L]) ∧ OwnG KBy 5 w' w.heap.size (.slice a' L c') (zs.take L) ∧ Below w.heap.size w w' := by
  have HCp := hidP (fun W h => l11Copy_any a n c N zs W hn (hB.later h) hc hl)
  have HSp := hidP (fun W => sFileOk_any a n c N W)
  rw [hr] at HSp
  obtain ⟨k0, k1, k2⟩ := okF_yes hr
  have e2 : IntKind.i64.wrap ((n : Int) - N) = (n : Int) - N := by rw [IntKind.wrap_i64]; omega
  have hLn : L ≤ n := by omega
  have hn0 : 0 < n := by omega
  have e3 : IntKind.i64.wrap (N + 0) = (L : Int) := by rw [IntKind.wrap_i64]; omega
  have e4 : ((L : Int)).toNat = L := by omega
  have e5 : 0 ≤ (L : Int) := by omega
  have d1 : (0 : Int) < (n : Int) - N := by omega
  have d2 : decide ((0 : Int) < (n : Int) - N) = true := decide_eq_true d1
  have f3 : N.toNat = L := by omega
  have f4 : 0 ≤ N := by omega
  clear hB hn hr hc h3
  go_enter Try.func24, Try.ntmps24
  go_wp2_with fail
  obtain ⟨bk0_W1, bk1_W1⟩ := box2D w 25 (.slice a n c) (.int .i64 N)
  have bkF_W1 : ∀ o, (w.alloc (.cells #[.slice a n c, .int .i64 N] 25)).frozen? ⟨w.heap.size, o, none⟩ = false := fun o => by simp [go_sem]
  have bkL_W1 : w.heap.size < (w.alloc (.cells #[.slice a n c, .int .i64 N] 25)).heap.size := by simp
  have ab_W1 := alloc_below w (.cells #[.slice a n c, .int .i64 N] 25)
  have as_W1 : Hid ((w.alloc (.cells #[.slice a n c, .int .i64 N] 25)).heap.size = w.heap.size + 1) := hidP (by simp)
  generalize w.alloc (.cells #[.slice a n c, .int .i64 N] 25) = W1 at *
  have acc_W1 := hidP (ab_W1)
  have sz_W1 : Hid (w.heap.size ≤ W1.heap.size) := hidP ab_W1.size
  clear ab_W1 
  obtain ⟨rs0_W2, rs1_W2⟩ := box2D W1 25 (.slice none 0 0) (.int .i64 0)
  have rsF_W2 : ∀ o, (W1.alloc (.cells #[.slice none 0 0, .int .i64 0] 25)).frozen? ⟨W1.heap.size, o, none⟩ = false := fun o => by simp [go_sem]
  have rsL_W2 : W1.heap.size < (W1.alloc (.cells #[.slice none 0 0, .int .i64 0] 25)).heap.size := by simp
  have ab_W2 := alloc_below W1 (.cells #[.slice none 0 0, .int .i64 0] 25)
  have as_W2 : Hid ((W1.alloc (.cells #[.slice none 0 0, .int .i64 0] 25)).heap.size = W1.heap.size + 1) := hidP (by simp)
  generalize W1.alloc (.cells #[.slice none 0 0, .int .i64 0] 25) = W2 at *
  have bk0_W2 := (ab_W2.cell bkL_W1).trans bk0_W1
  have bk1_W2 := (ab_W2.cell bkL_W1).trans bk1_W1
  have bkF_W2 : ∀ o, W2.frozen? ⟨w.heap.size, o, none⟩ = false := fun o => (ab_W2.frozen bkL_W1).trans (bkF_W1 o)
  have bkL_W2 : w.heap.size < W2.heap.size := Nat.lt_of_lt_of_le bkL_W1 ab_W2.size
  have acc_W2 := hidP (acc_W1.out.trans (ab_W2.mono acc_W1.out.size))
  have sz_W2 : Hid (W1.heap.size ≤ W2.heap.size) := hidP ab_W2.size
  clear ab_W2 bk0_W1 bk1_W1 bkF_W1 bkL_W1 acc_W1
  rw [as_W1.out] at rs0_W2 rs1_W2 rsL_W2
  have rsF_W2' : ∀ o, W2.frozen? ⟨w.heap.size + 1, o, none⟩ = false := fun o => by have := rsF_W2 o; rw [as_W1.out] at this; exact this
  clear rsF_W2
  have rsF_W2 := rsF_W2'
  clear rsF_W2'
  refine (HCp.out _ acc_W2.out).mono ?_
  rintro e w3 ⟨a3, c3, rfl, og3, hb3⟩
  have OG := hidP og3
  clear og3
  have bk0_w3 := (hb3.cell bkL_W2).trans bk0_W2
  have bk1_w3 := (hb3.cell bkL_W2).trans bk1_W2
  have bkF_w3 : ∀ o, w3.frozen? ⟨w.heap.size, o, none⟩ = false := fun o => (hb3.frozen bkL_W2).trans (bkF_W2 o)
  have bkL_w3 : w.heap.size < w3.heap.size := Nat.lt_of_lt_of_le bkL_W2 hb3.size
  have rs0_w3 := (hb3.cell rsL_W2).trans rs0_W2
  have rs1_w3 := (hb3.cell rsL_W2).trans rs1_W2
  have rsF_w3 : ∀ o, w3.frozen? ⟨w.heap.size + 1, o, none⟩ = false := fun o => (hb3.frozen rsL_W2).trans (rsF_W2 o)
  have rsL_w3 : w.heap.size + 1 < w3.heap.size := Nat.lt_of_lt_of_le rsL_W2 hb3.size
  have acc_w3 := hidP (acc_W2.out.trans (hb3.mono acc_W2.out.size))
  have sz_w3 : Hid (W2.heap.size ≤ w3.heap.size) := hidP hb3.size
  clear hb3 bk0_W2 bk1_W2 bkF_W2 bkL_W2 rs0_W2 rs1_W2 rsF_W2 rsL_W2 acc_W2
  have oL_w3 := hidP (OG.out)
  have lhL : Hid (∀ k, (Value.slice a3 n c3).ownBlock = some k → W2.heap.size ≤ k ∧ k < w3.heap.size) := hidP (fun k hk => OwnG.lt oL_w3.out k hk)
  clear OG
  go_wp2_with fail
  obtain ⟨ou0_W4, ou1_W4⟩ := box2D w3 25 (.slice a3 n c3) (.int .i64 N)
  have ouF_W4 : ∀ o, (w3.alloc (.cells #[.slice a3 n c3, .int .i64 N] 25)).frozen? ⟨w3.heap.size, o, none⟩ = false := fun o => by simp [go_sem]
  have ouL_W4 : w3.heap.size < (w3.alloc (.cells #[.slice a3 n c3, .int .i64 N] 25)).heap.size := by simp
  have ab_W4 := alloc_below w3 (.cells #[.slice a3 n c3, .int .i64 N] 25)
  have as_W4 : Hid ((w3.alloc (.cells #[.slice a3 n c3, .int .i64 N] 25)).heap.size = w3.heap.size + 1) := hidP (by simp)
  generalize w3.alloc (.cells #[.slice a3 n c3, .int .i64 N] 25) = W4 at *
  have bk0_W4 := (ab_W4.cell bkL_w3).trans bk0_w3
  have bk1_W4 := (ab_W4.cell bkL_w3).trans bk1_w3
  have bkF_W4 : ∀ o, W4.frozen? ⟨w.heap.size, o, none⟩ = false := fun o => (ab_W4.frozen bkL_w3).trans (bkF_w3 o)
  have bkL_W4 : w.heap.size < W4.heap.size := Nat.lt_of_lt_of_le bkL_w3 ab_W4.size
  have rs0_W4 := (ab_W4.cell rsL_w3).trans rs0_w3
  have rs1_W4 := (ab_W4.cell rsL_w3).trans rs1_w3
  have rsF_W4 : ∀ o, W4.frozen? ⟨w.heap.size + 1, o, none⟩ = false := fun o => (ab_W4.frozen rsL_w3).trans (rsF_w3 o)
  have rsL_W4 : w.heap.size + 1 < W4.heap.size := Nat.lt_of_lt_of_le rsL_w3 ab_W4.size
  have oL_W4 := hidP (OwnG.later oL_w3.out ab_W4)
  have acc_W4 := hidP (acc_w3.out.trans (ab_W4.mono acc_w3.out.size))
  have sz_W4 : Hid (w3.heap.size ≤ W4.heap.size) := hidP ab_W4.size
  clear ab_W4 bk0_w3 bk1_w3 bkF_w3 bkL_w3 rs0_w3 rs1_w3 rsF_w3 rsL_w3 oL_w3 acc_w3
  refine (HSp.out _).mono ?_
  rintro e w5 ⟨rfl, hb5⟩
  have bk0_w5 := (hb5.cell bkL_W4).trans bk0_W4
  have bk1_w5 := (hb5.cell bkL_W4).trans bk1_W4
  have bkF_w5 : ∀ o, w5.frozen? ⟨w.heap.size, o, none⟩ = false := fun o => (hb5.frozen bkL_W4).trans (bkF_W4 o)
  have bkL_w5 : w.heap.size < w5.heap.size := Nat.lt_of_lt_of_le bkL_W4 hb5.size
  have rs0_w5 := (hb5.cell rsL_W4).trans rs0_W4
  have rs1_w5 := (hb5.cell rsL_W4).trans rs1_W4
  have rsF_w5 : ∀ o, w5.frozen? ⟨w.heap.size + 1, o, none⟩ = false := fun o => (hb5.frozen rsL_W4).trans (rsF_W4 o)
  have rsL_w5 : w.heap.size + 1 < w5.heap.size := Nat.lt_of_lt_of_le rsL_W4 hb5.size
  have ou0_w5 := (hb5.cell ouL_W4).trans ou0_W4
  have ou1_w5 := (hb5.cell ouL_W4).trans ou1_W4
  have ouF_w5 : ∀ o, w5.frozen? ⟨w3.heap.size, o, none⟩ = false := fun o => (hb5.frozen ouL_W4).trans (ouF_W4 o)
  have ouL_w5 : w3.heap.size < w5.heap.size := Nat.lt_of_lt_of_le ouL_W4 hb5.size
  have oL_w5 := hidP (OwnG.later oL_W4.out hb5)
  have acc_w5 := hidP (acc_W4.out.trans (hb5.mono acc_W4.out.size))
  have sz_w5 : Hid (W4.heap.size ≤ w5.heap.size) := hidP hb5.size
  clear hb5 bk0_W4 bk1_W4 bkF_W4 bkL_W4 rs0_W4 rs1_W4 rsF_W4 rsL_W4 ou0_W4 ou1_W4 ouF_W4 ouL_W4 oL_W4 acc_W4
  have nA : ¬ (w3.heap.size = w.heap.size + 1) := by have := as_W1.out; have := sz_W1.out; have := as_W2.out; have := sz_W2.out; have := sz_w3.out; have := as_W4.out; have := sz_W4.out; have := sz_w5.out; omega
  have nB : ¬ (w.heap.size + 1 = w3.heap.size) := by omega
  have nC : ¬ (w3.heap.size = w.heap.size) := by have := as_W1.out; have := sz_W1.out; have := as_W2.out; have := sz_W2.out; have := sz_w3.out; have := as_W4.out; have := sz_W4.out; have := sz_w5.out; omega
  have nD : ¬ (w.heap.size = w3.heap.size) := by omega
  obtain ⟨gL, rfl⟩ := own_some oL_w5.out hn0
  have hcp := oL_w5.out.caps
  have e6 : (L : Int) ≤ (c3 : Int) := by omega
  have e7 : L ≤ c3 := by omega
  have oM_w5 := hidP (OwnG.take oL_w5.out hLn)
  clear hcp
  have lhM : Hid (∀ k, (Value.slice (some ⟨gL, 0, none⟩) L c3).ownBlock = some k → k < w3.heap.size) := hidP (fun k hk => (lhL.out k hk).2)
  go_wp2_with fail
  refine bodyPost_ret (v := .agg #[.slice (some ⟨gL, 0, none⟩) L c3, .int .i64 (L : Int)]) (by simp [results, Try.results24, go_sem, rs0_w5, rs1_w5]) rfl ⟨_, _, rfl, ?_, ?_⟩
  · refine OwnG.mono (B := W2.heap.size) ?_ (by have := as_W1.out; have := sz_W1.out; have := as_W2.out; have := sz_W2.out; have := sz_w3.out; have := as_W4.out; have := sz_W4.out; have := sz_w5.out; omega)
    have NE9 : ∀ k, (Value.slice (some ⟨gL, 0, none⟩) L c3).ownBlock = some k → some w3.heap.size ≠ some k := fun k hk e => by have h5 := lhM.out k hk; have h6 := Option.some.inj e; omega
    iterate 4 (with_reducible refine OwnG.grown ?_ (grown_cellG _ _ _ _) ?_; rotate_left; (focus (first | exact OwnG.ne_of oM_w5.out (by have := as_W1.out; have := sz_W1.out; have := as_W2.out; have := sz_W2.out; have := sz_w3.out; have := as_W4.out; have := sz_W4.out; have := sz_w5.out; omega) | exact NE9)))
    with_reducible exact oM_w5.out
  · repeat (with_reducible refine Below.setCell ?_ ?_ _; rotate_left; (focus (first | (simp; done) | (simp; omega) | (dsimp only; have := as_W1.out; have := sz_W1.out; have := as_W2.out; have := sz_W2.out; have := sz_w3.out; have := as_W4.out; have := sz_W4.out; have := sz_w5.out; omega))))
    exact acc_w5.out

set_option maxRecDepth 10000 in
set_option maxHeartbeats 4000000 in
theorem sCr_cutB (a : Option Addr) (n c : Nat) (N : Int) (zs : List Int) (w : World) (hn : n = zs.length) (hB : RowG KBy w a zs) (hc : a = none → c = 0) (hl : n ≤ 1048576) (K : Int) (hr : okF n N = true) (h1 : 0 ≤ K) (h2 : K < (n : Int) - N) (L : Nat) (h3 : (L : Int) = N + K) :
    Calls Try.prog 24 #[.agg #[.slice a n c, .int .i64 N], .int .i64 K] w fun e w' => ∃ a' c', e = .returned (.agg #[.slice a' L c', .int .i64 L]) ∧ OwnG KBy 5 w' w.heap.size (.slice a' L c') (zs.take L) ∧ Below w.heap.size w w' := by
  have HCp := hidP (fun W h => l11Copy_any a n c N zs W hn (hB.later h) hc hl)
  have HSp := hidP (fun W => sFileOk_any a n c N W)
  rw [hr] at HSp
  obtain ⟨k0, k1, k2⟩ := okF_yes hr
  have e2 : IntKind.i64.wrap ((n : Int) - N) = (n : Int) - N := by rw [IntKind.wrap_i64]; omega
  have hLn : L ≤ n := by omega
  have hn0 : 0 < n := by omega
  have e3 : IntKind.i64.wrap (N + K) = (L : Int) := by rw [IntKind.wrap_i64]; omega
  have e4 : ((L : Int)).toNat = L := by omega
  have e5 : 0 ≤ (L : Int) := by omega
  have d0 : ¬ (K < 0) := by omega
  clear hB hn hr hc h3
  go_enter Try.func24, Try.ntmps24
  go_wp2_with fail
  obtain ⟨bk0_W1, bk1_W1⟩ := box2D w 25 (.slice a n c) (.int .i64 N)
  have bkF_W1 : ∀ o, (w.alloc (.cells #[.slice a n c, .int .i64 N] 25)).frozen? ⟨w.heap.size, o, none⟩ = false := fun o => by simp [go_sem]
  have bkL_W1 : w.heap.size < (w.alloc (.cells #[.slice a n c, .int .i64 N] 25)).heap.size := by simp
  have ab_W1 := alloc_below w (.cells #[.slice a n c, .int .i64 N] 25)
  have as_W1 : Hid ((w.alloc (.cells #[.slice a n c, .int .i64 N] 25)).heap.size = w.heap.size + 1) := hidP (by simp)
  generalize w.alloc (.cells #[.slice a n c, .int .i64 N] 25) = W1 at *
  have acc_W1 := hidP (ab_W1)
  have sz_W1 : Hid (w.heap.size ≤ W1.heap.size) := hidP ab_W1.size
  clear ab_W1 
  obtain ⟨rs0_W2, rs1_W2⟩ := box2D W1 25 (.slice none 0 0) (.int .i64 0)
  have rsF_W2 : ∀ o, (W1.alloc (.cells #[.slice none 0 0, .int .i64 0] 25)).frozen? ⟨W1.heap.size, o, none⟩ = false := fun o => by simp [go_sem]
  have rsL_W2 : W1.heap.size < (W1.alloc (.cells #[.slice none 0 0, .int .i64 0] 25)).heap.size := by simp
  have ab_W2 := alloc_below W1 (.cells #[.slice none 0 0, .int .i64 0] 25)
  have as_W2 : Hid ((W1.alloc (.cells #[.slice none 0 0, .int .i64 0] 25)).heap.size = W1.heap.size + 1) := hidP (by simp)
  generalize W1.alloc (.cells #[.slice none 0 0, .int .i64 0] 25) = W2 at *
  have bk0_W2 := (ab_W2.cell bkL_W1).trans bk0_W1
  have bk1_W2 := (ab_W2.cell bkL_W1).trans bk1_W1
  have bkF_W2 : ∀ o, W2.frozen? ⟨w.heap.size, o, none⟩ = false := fun o => (ab_W2.frozen bkL_W1).trans (bkF_W1 o)
  have bkL_W2 : w.heap.size < W2.heap.size := Nat.lt_of_lt_of_le bkL_W1 ab_W2.size
  have acc_W2 := hidP (acc_W1.out.trans (ab_W2.mono acc_W1.out.size))
  have sz_W2 : Hid (W1.heap.size ≤ W2.heap.size) := hidP ab_W2.size
  clear ab_W2 bk0_W1 bk1_W1 bkF_W1 bkL_W1 acc_W1
  rw [as_W1.out] at rs0_W2 rs1_W2 rsL_W2
  have rsF_W2' : ∀ o, W2.frozen? ⟨w.heap.size + 1, o, none⟩ = false := fun o => by have := rsF_W2 o; rw [as_W1.out] at this; exact this
  clear rsF_W2
  have rsF_W2 := rsF_W2'
  clear rsF_W2'
  refine (HCp.out _ acc_W2.out).mono ?_
  rintro e w3 ⟨a3, c3, rfl, og3, hb3⟩
  have OG := hidP og3
  clear og3
  have bk0_w3 := (hb3.cell bkL_W2).trans bk0_W2
  have bk1_w3 := (hb3.cell bkL_W2).trans bk1_W2
  have bkF_w3 : ∀ o, w3.frozen? ⟨w.heap.size, o, none⟩ = false := fun o => (hb3.frozen bkL_W2).trans (bkF_W2 o)
  have bkL_w3 : w.heap.size < w3.heap.size := Nat.lt_of_lt_of_le bkL_W2 hb3.size
  have rs0_w3 := (hb3.cell rsL_W2).trans rs0_W2
  have rs1_w3 := (hb3.cell rsL_W2).trans rs1_W2
  have rsF_w3 : ∀ o, w3.frozen? ⟨w.heap.size + 1, o, none⟩ = false := fun o => (hb3.frozen rsL_W2).trans (rsF_W2 o)
  have rsL_w3 : w.heap.size + 1 < w3.heap.size := Nat.lt_of_lt_of_le rsL_W2 hb3.size
  have acc_w3 := hidP (acc_W2.out.trans (hb3.mono acc_W2.out.size))
  have sz_w3 : Hid (W2.heap.size ≤ w3.heap.size) := hidP hb3.size
  clear hb3 bk0_W2 bk1_W2 bkF_W2 bkL_W2 rs0_W2 rs1_W2 rsF_W2 rsL_W2 acc_W2
  have oL_w3 := hidP (OG.out)
  have lhL : Hid (∀ k, (Value.slice a3 n c3).ownBlock = some k → W2.heap.size ≤ k ∧ k < w3.heap.size) := hidP (fun k hk => OwnG.lt oL_w3.out k hk)
  clear OG
  go_wp2_with fail
  obtain ⟨ou0_W4, ou1_W4⟩ := box2D w3 25 (.slice a3 n c3) (.int .i64 N)
  have ouF_W4 : ∀ o, (w3.alloc (.cells #[.slice a3 n c3, .int .i64 N] 25)).frozen? ⟨w3.heap.size, o, none⟩ = false := fun o => by simp [go_sem]
  have ouL_W4 : w3.heap.size < (w3.alloc (.cells #[.slice a3 n c3, .int .i64 N] 25)).heap.size := by simp
  have ab_W4 := alloc_below w3 (.cells #[.slice a3 n c3, .int .i64 N] 25)
  have as_W4 : Hid ((w3.alloc (.cells #[.slice a3 n c3, .int .i64 N] 25)).heap.size = w3.heap.size + 1) := hidP (by simp)
  generalize w3.alloc (.cells #[.slice a3 n c3, .int .i64 N] 25) = W4 at *
  have bk0_W4 := (ab_W4.cell bkL_w3).trans bk0_w3
  have bk1_W4 := (ab_W4.cell bkL_w3).trans bk1_w3
  have bkF_W4 : ∀ o, W4.frozen? ⟨w.heap.size, o, none⟩ = false := fun o => (ab_W4.frozen bkL_w3).trans (bkF_w3 o)
  have bkL_W4 : w.heap.size < W4.heap.size := Nat.lt_of_lt_of_le bkL_w3 ab_W4.size
  have rs0_W4 := (ab_W4.cell rsL_w3).trans rs0_w3
  have rs1_W4 := (ab_W4.cell rsL_w3).trans rs1_w3
  have rsF_W4 : ∀ o, W4.frozen? ⟨w.heap.size + 1, o, none⟩ = false := fun o => (ab_W4.frozen rsL_w3).trans (rsF_w3 o)
  have rsL_W4 : w.heap.size + 1 < W4.heap.size := Nat.lt_of_lt_of_le rsL_w3 ab_W4.size
  have oL_W4 := hidP (OwnG.later oL_w3.out ab_W4)
  have acc_W4 := hidP (acc_w3.out.trans (ab_W4.mono acc_w3.out.size))
  have sz_W4 : Hid (w3.heap.size ≤ W4.heap.size) := hidP ab_W4.size
  clear ab_W4 bk0_w3 bk1_w3 bkF_w3 bkL_w3 rs0_w3 rs1_w3 rsF_w3 rsL_w3 oL_w3 acc_w3
  refine (HSp.out _).mono ?_
  rintro e w5 ⟨rfl, hb5⟩
  have bk0_w5 := (hb5.cell bkL_W4).trans bk0_W4
  have bk1_w5 := (hb5.cell bkL_W4).trans bk1_W4
  have bkF_w5 : ∀ o, w5.frozen? ⟨w.heap.size, o, none⟩ = false := fun o => (hb5.frozen bkL_W4).trans (bkF_W4 o)
  have bkL_w5 : w.heap.size < w5.heap.size := Nat.lt_of_lt_of_le bkL_W4 hb5.size
  have rs0_w5 := (hb5.cell rsL_W4).trans rs0_W4
  have rs1_w5 := (hb5.cell rsL_W4).trans rs1_W4
  have rsF_w5 : ∀ o, w5.frozen? ⟨w.heap.size + 1, o, none⟩ = false := fun o => (hb5.frozen rsL_W4).trans (rsF_W4 o)
  have rsL_w5 : w.heap.size + 1 < w5.heap.size := Nat.lt_of_lt_of_le rsL_W4 hb5.size
  have ou0_w5 := (hb5.cell ouL_W4).trans ou0_W4
  have ou1_w5 := (hb5.cell ouL_W4).trans ou1_W4
  have ouF_w5 : ∀ o, w5.frozen? ⟨w3.heap.size, o, none⟩ = false := fun o => (hb5.frozen ouL_W4).trans (ouF_W4 o)
  have ouL_w5 : w3.heap.size < w5.heap.size := Nat.lt_of_lt_of_le ouL_W4 hb5.size
  have oL_w5 := hidP (OwnG.later oL_W4.out hb5)
  have acc_w5 := hidP (acc_W4.out.trans (hb5.mono acc_W4.out.size))
  have sz_w5 : Hid (W4.heap.size ≤ w5.heap.size) := hidP hb5.size
  clear hb5 bk0_W4 bk1_W4 bkF_W4 bkL_W4 rs0_W4 rs1_W4 rsF_W4 rsL_W4 ou0_W4 ou1_W4 ouF_W4 ouL_W4 oL_W4 acc_W4
  have nA : ¬ (w3.heap.size = w.heap.size + 1) := by have := as_W1.out; have := sz_W1.out; have := as_W2.out; have := sz_W2.out; have := sz_w3.out; have := as_W4.out; have := sz_W4.out; have := sz_w5.out; omega
  have nB : ¬ (w.heap.size + 1 = w3.heap.size) := by omega
  have nC : ¬ (w3.heap.size = w.heap.size) := by have := as_W1.out; have := sz_W1.out; have := as_W2.out; have := sz_W2.out; have := sz_w3.out; have := as_W4.out; have := sz_W4.out; have := sz_w5.out; omega
  have nD : ¬ (w.heap.size = w3.heap.size) := by omega
  obtain ⟨gL, rfl⟩ := own_some oL_w5.out hn0
  have hcp := oL_w5.out.caps
  have e6 : (L : Int) ≤ (c3 : Int) := by omega
  have e7 : L ≤ c3 := by omega
  have oM_w5 := hidP (OwnG.take oL_w5.out hLn)
  clear hcp
  have lhM : Hid (∀ k, (Value.slice (some ⟨gL, 0, none⟩) L c3).ownBlock = some k → k < w3.heap.size) := hidP (fun k hk => (lhL.out k hk).2)
  go_wp2_with fail
  refine bodyPost_ret (v := .agg #[.slice (some ⟨gL, 0, none⟩) L c3, .int .i64 (L : Int)]) (by simp [results, Try.results24, go_sem, rs0_w5, rs1_w5]) rfl ⟨_, _, rfl, ?_, ?_⟩
  · refine OwnG.mono (B := W2.heap.size) ?_ (by have := as_W1.out; have := sz_W1.out; have := as_W2.out; have := sz_W2.out; have := sz_w3.out; have := as_W4.out; have := sz_W4.out; have := sz_w5.out; omega)
    have NE9 : ∀ k, (Value.slice (some ⟨gL, 0, none⟩) L c3).ownBlock = some k → some w3.heap.size ≠ some k := fun k hk e => by have h5 := lhM.out k hk; have h6 := Option.some.inj e; omega
    iterate 4 (with_reducible refine OwnG.grown ?_ (grown_cellG _ _ _ _) ?_; rotate_left; (focus (first | exact OwnG.ne_of oM_w5.out (by have := as_W1.out; have := sz_W1.out; have := as_W2.out; have := sz_W2.out; have := sz_w3.out; have := as_W4.out; have := sz_W4.out; have := sz_w5.out; omega) | exact NE9)))
    with_reducible exact oM_w5.out
  · repeat (with_reducible refine Below.setCell ?_ ?_ _; rotate_left; (focus (first | (simp; done) | (simp; omega) | (dsimp only; have := as_W1.out; have := sz_W1.out; have := as_W2.out; have := sz_W2.out; have := sz_w3.out; have := as_W4.out; have := sz_W4.out; have := sz_w5.out; omega))))
    exact acc_w5.out

end Go.Proofs.Ytfhlplpiojhhmaa
