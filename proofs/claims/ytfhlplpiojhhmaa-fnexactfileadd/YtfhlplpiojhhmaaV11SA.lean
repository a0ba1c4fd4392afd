/-
  The specification's FileAdd.
-/
import Derived.Test.YtfhlplpiojhhmaaX11
namespace Go.Proofs.Ytfhlplpiojhhmaa
open Go.RowKit

set_option maxRecDepth 10000 in
set_option maxHeartbeats 4000000 in
theorem sAd_no (a : Option Addr) (n c : Nat) (N : Int) (zs : List Int) (w : World) (hn : n = zs.length) (hB : RowG KBy w a zs) (b : Option Addr) (m d : Nat) (hc : a = none → c = 0) (hl : n ≤ 1048576) (hr : okF n N = false) :
    Calls Try.prog 18 #[.agg #[.slice a n c, .int .i64 N], .slice b m d] w fun e w' => ∃ a' c', e = .returned (.tuple #[.agg #[.slice a' n c', .int .i64 N], .bool false]) ∧ OwnG KBy 5 w' w.heap.size (.slice a' n c') (zs) ∧ Below w.heap.size w w' := by
  have HCp := hidP (fun W h => l11Copy_any a n c N zs W hn (hB.later h) hc hl)
  have HSp := hidP (fun W => sFileOk_any a n c N W)
  rw [hr] at HSp
  clear hB hn hr hc
  go_enter Try.func18, Try.ntmps18
  go_wp2_with fail
  obtain ⟨bk0_W1, bk1_W1⟩ := box2D w 25 (.slice a n c) (.int .i64 N)
  have bkF_W1 : ∀ o, (w.alloc (.cells #[.slice a n c, .int .i64 N] 25)).frozen? ⟨w.heap.size, o, none⟩ = false := fun o => by simp [go_sem]
  have bkL_W1 : w.heap.size < (w.alloc (.cells #[.slice a n c, .int .i64 N] 25)).heap.size := by simp
  have ab_W1 := alloc_below w (.cells #[.slice a n c, .int .i64 N] 25)
  have as_W1 : Hid ((w.alloc (.cells #[.slice a n c, .int .i64 N] 25)).heap.size = w.heap.size + 1) := hidP (by simp)
  generalize w.alloc (.cells #[.slice a n c, .int .i64 N] 25) = W1 at *
  have acc_W1 := hidP (ab_W1)
  have sz_W1 : Hid (w.heap.size ≤ W1.heap.size) := hidP ab_W1.size
  clear ab_W1 
  obtain ⟨rs0_W2, rs1_W2⟩ := box2D W1 25 (.slice none 0 0) (.int .i64 0)
  have rsF_W2 : ∀ o, (W1.alloc (.cells #[.slice none 0 0, .int .i64 0] 25)).frozen? ⟨W1.heap.size, o, none⟩ = false := fun o => by simp [go_sem]
  have rsL_W2 : W1.heap.size < (W1.alloc (.cells #[.slice none 0 0, .int .i64 0] 25)).heap.size := by simp
  have ab_W2 := alloc_below W1 (.cells #[.slice none 0 0, .int .i64 0] 25)
  have as_W2 : Hid ((W1.alloc (.cells #[.slice none 0 0, .int .i64 0] 25)).heap.size = W1.heap.size + 1) := hidP (by simp)
  generalize W1.alloc (.cells #[.slice none 0 0, .int .i64 0] 25) = W2 at *
  have bk0_W2 := (ab_W2.cell bkL_W1).trans bk0_W1
  have bk1_W2 := (ab_W2.cell bkL_W1).trans bk1_W1
  have bkF_W2 : ∀ o, W2.frozen? ⟨w.heap.size, o, none⟩ = false := fun o => (ab_W2.frozen bkL_W1).trans (bkF_W1 o)
  have bkL_W2 : w.heap.size < W2.heap.size := Nat.lt_of_lt_of_le bkL_W1 ab_W2.size
  have acc_W2 := hidP (acc_W1.out.trans (ab_W2.mono acc_W1.out.size))
  have sz_W2 : Hid (W1.heap.size ≤ W2.heap.size) := hidP ab_W2.size
  clear ab_W2 bk0_W1 bk1_W1 bkF_W1 bkL_W1 acc_W1
  rw [as_W1.out] at rs0_W2 rs1_W2 rsL_W2
  have rsF_W2' : ∀ o, W2.frozen? ⟨w.heap.size + 1, o, none⟩ = false := fun o => by have := rsF_W2 o; rw [as_W1.out] at this; exact this
  clear rsF_W2
  have rsF_W2 := rsF_W2'
  clear rsF_W2'
  refine (HCp.out _ acc_W2.out).mono ?_
  rintro e w3 ⟨a3, c3, rfl, og3, hb3⟩
  have OG := hidP og3
  clear og3
  have bk0_w3 := (hb3.cell bkL_W2).trans bk0_W2
  have bk1_w3 := (hb3.cell bkL_W2).trans bk1_W2
  have bkF_w3 : ∀ o, w3.frozen? ⟨w.heap.size, o, none⟩ = false := fun o => (hb3.frozen bkL_W2).trans (bkF_W2 o)
  have bkL_w3 : w.heap.size < w3.heap.size := Nat.lt_of_lt_of_le bkL_W2 hb3.size
  have rs0_w3 := (hb3.cell rsL_W2).trans rs0_W2
  have rs1_w3 := (hb3.cell rsL_W2).trans rs1_W2
  have rsF_w3 : ∀ o, w3.frozen? ⟨w.heap.size + 1, o, none⟩ = false := fun o => (hb3.frozen rsL_W2).trans (rsF_W2 o)
  have rsL_w3 : w.heap.size + 1 < w3.heap.size := Nat.lt_of_lt_of_le rsL_W2 hb3.size
  have acc_w3 := hidP (acc_W2.out.trans (hb3.mono acc_W2.out.size))
  have sz_w3 : Hid (W2.heap.size ≤ w3.heap.size) := hidP hb3.size
  clear hb3 bk0_W2 bk1_W2 bkF_W2 bkL_W2 rs0_W2 rs1_W2 rsF_W2 rsL_W2 acc_W2
  have oL_w3 := hidP (OG.out)
  have lhL : Hid (∀ k, (Value.slice a3 n c3).ownBlock = some k → W2.heap.size ≤ k ∧ k < w3.heap.size) := hidP (fun k hk => OwnG.lt oL_w3.out k hk)
  clear OG
  go_wp2_with fail
  obtain ⟨ou0_W4, ou1_W4⟩ := box2D w3 25 (.slice a3 n c3) (.int .i64 N)
  have ouF_W4 : ∀ o, (w3.alloc (.cells #[.slice a3 n c3, .int .i64 N] 25)).frozen? ⟨w3.heap.size, o, none⟩ = false := fun o => by simp [go_sem]
  have ouL_W4 : w3.heap.size < (w3.alloc (.cells #[.slice a3 n c3, .int .i64 N] 25)).heap.size := by simp
  have ab_W4 := alloc_below w3 (.cells #[.slice a3 n c3, .int .i64 N] 25)
  have as_W4 : Hid ((w3.alloc (.cells #[.slice a3 n c3, .int .i64 N] 25)).heap.size = w3.heap.size + 1) := hidP (by simp)
  generalize w3.alloc (.cells #[.slice a3 n c3, .int .i64 N] 25) = W4 at *
  have bk0_W4 := (ab_W4.cell bkL_w3).trans bk0_w3
  have bk1_W4 := (ab_W4.cell bkL_w3).trans bk1_w3
  have bkF_W4 : ∀ o, W4.frozen? ⟨w.heap.size, o, none⟩ = false := fun o => (ab_W4.frozen bkL_w3).trans (bkF_w3 o)
  have bkL_W4 : w.heap.size < W4.heap.size := Nat.lt_of_lt_of_le bkL_w3 ab_W4.size
  have rs0_W4 := (ab_W4.cell rsL_w3).trans rs0_w3
  have rs1_W4 := (ab_W4.cell rsL_w3).trans rs1_w3
  have rsF_W4 : ∀ o, W4.frozen? ⟨w.heap.size + 1, o, none⟩ = false := fun o => (ab_W4.frozen rsL_w3).trans (rsF_w3 o)
  have rsL_W4 : w.heap.size + 1 < W4.heap.size := Nat.lt_of_lt_of_le rsL_w3 ab_W4.size
  have oL_W4 := hidP (OwnG.later oL_w3.out ab_W4)
  have acc_W4 := hidP (acc_w3.out.trans (ab_W4.mono acc_w3.out.size))
  have sz_W4 : Hid (w3.heap.size ≤ W4.heap.size) := hidP ab_W4.size
  clear ab_W4 bk0_w3 bk1_w3 bkF_w3 bkL_w3 rs0_w3 rs1_w3 rsF_w3 rsL_w3 oL_w3 acc_w3
  refine (HSp.out _).mono ?_
  rintro e w5 ⟨rfl, hb5⟩
  have bk0_w5 := (hb5.cell bkL_W4).trans bk0_W4
  have bk1_w5 := (hb5.cell bkL_W4).trans bk1_W4
  have bkF_w5 : ∀ o, w5.frozen? ⟨w.heap.size, o, none⟩ = false := fun o => (hb5.frozen bkL_W4).trans (bkF_W4 o)
  have bkL_w5 : w.heap.size < w5.heap.size := Nat.lt_of_lt_of_le bkL_W4 hb5.size
  have rs0_w5 := (hb5.cell rsL_W4).trans rs0_W4
  have rs1_w5 := (hb5.cell rsL_W4).trans rs1_W4
  have rsF_w5 : ∀ o, w5.frozen? ⟨w.heap.size + 1, o, none⟩ = false := fun o => (hb5.frozen rsL_W4).trans (rsF_W4 o)
  have rsL_w5 : w.heap.size + 1 < w5.heap.size := Nat.lt_of_lt_of_le rsL_W4 hb5.size
  have ou0_w5 := (hb5.cell ouL_W4).trans ou0_W4
  have ou1_w5 := (hb5.cell ouL_W4).trans ou1_W4
  have ouF_w5 : ∀ o, w5.frozen? ⟨w3.heap.size, o, none⟩ = false := fun o => (hb5.frozen ouL_W4).trans (ouF_W4 o)
  have ouL_w5 : w3.heap.size < w5.heap.size := Nat.lt_of_lt_of_le ouL_W4 hb5.size
  have oL_w5 := hidP (OwnG.later oL_W4.out hb5)
  have acc_w5 := hidP (acc_W4.out.trans (hb5.mono acc_W4.out.size))
  have sz_w5 : Hid (W4.heap.size ≤ w5.heap.size) := hidP hb5.size
  clear hb5 bk0_W4 bk1_W4 bkF_W4 bkL_W4 rs0_W4 rs1_W4 rsF_W4 rsL_W4 ou0_W4 ou1_W4 ouF_W4 ouL_W4 oL_W4 acc_W4
  go_wp2_with fail
  refine bodyPost_ret (v := .tuple #[.agg #[.slice a3 n c3, .int .i64 N], .bool false]) (by simp [results, Try.results18, go_sem, rs0_w5, rs1_w5]) rfl ⟨_, _, rfl, ?_, ?_⟩
  · refine OwnG.mono (B := W2.heap.size) ?_ (by have := as_W1.out; have := sz_W1.out; have := as_W2.out; have := sz_W2.out; have := sz_w3.out; have := as_W4.out; have := sz_W4.out; have := sz_w5.out; omega)
    iterate 2 (with_reducible refine OwnG.grown ?_ (grown_cellG _ _ _ _) ?_; rotate_left; (focus (first | exact OwnG.ne_of oL_w5.out (by have := as_W1.out; have := sz_W1.out; have := as_W2.out; have := sz_W2.out; have := sz_w3.out; have := as_W4.out; have := sz_W4.out; have := sz_w5.out; omega))))
    with_reducible exact oL_w5.out
  · repeat (with_reducible refine Below.setCell ?_ ?_ _; rotate_left; (focus (first | (simp; done) | (simp; omega) | (dsimp only; have := as_W1.out; have := sz_W1.out; have := as_W2.out; have := sz_W2.out; have := sz_w3.out; have := as_W4.out; have := sz_W4.out; have := sz_w5.out; omega))))
    exact acc_w5.out

set_option maxRecDepth 10000 in
set_option maxHeartbeats 4000000 in
theorem sAd_big (a : Option Addr) (n c : Nat) (N : Int) (zs : List Int) (w : World) (hn : n = zs.length) (hB : RowG KBy w a zs) (b : Option Addr) (m d : Nat) (hc : a = none → c = 0) (hl : n ≤ 1048576) (hr : okF n N = true) (hb : 400000 < n + m) (h9 : m ≤ 1048576) :
    Calls Try.prog 18 #[.agg #[.slice a n c, .int .i64 N], .slice b m d] w fun e w' => ∃ a' c', e = .returned (.tuple #[.agg #[.slice a' n c', .int .i64 N], .bool false]) ∧ OwnG KBy 5 w' w.heap.size (.slice a' n c') (zs) ∧ Below w.heap.size w w' := by
  have HCp := hidP (fun W h => l11Copy_any a n c N zs W hn (hB.later h) hc hl)
  have HSp := hidP (fun W => sFileOk_any a n c N W)
  rw [hr] at HSp
  have e2 : IntKind.i64.wrap ((n : Int) + (m : Int)) = (n : Int) + (m : Int) := by rw [IntKind.wrap_i64]; omega
  have d1 : decide (400000 < (n : Int) + (m : Int)) = true := decide_eq_true (by omega)
  have d2 : 400000 < (n : Int) + (m : Int) := by omega
  clear hB hn hr hc
  go_enter Try.func18, Try.ntmps18
  go_wp2_with fail
  obtain ⟨bk0_W1, bk1_W1⟩ := box2D w 25 (.slice a n c) (.int .i64 N)
  have bkF_W1 : ∀ o, (w.alloc (.cells #[.slice a n c, .int .i64 N] 25)).frozen? ⟨w.heap.size, o, none⟩ = false := fun o => by simp [go_sem]
  have bkL_W1 : w.heap.size < (w.alloc (.cells #[.slice a n c, .int .i64 N] 25)).heap.size := by simp
  have ab_W1 := alloc_below w (.cells #[.slice a n c, .int .i64 N] 25)
  have as_W1 : Hid ((w.alloc (.cells #[.slice a n c, .int .i64 N] 25)).heap.size = w.heap.size + 1) := hidP (by simp)
  generalize w.alloc (.cells #[.slice a n c, .int .i64 N] 25) = W1 at *
  have acc_W1 := hidP (ab_W1)
  have sz_W1 : Hid (w.heap.size ≤ W1.heap.size) := hidP ab_W1.size
  clear ab_W1 
  obtain ⟨rs0_W2, rs1_W2⟩ := box2D W1 25 (.slice none 0 0) (.int .i64 0)
  have rsF_W2 : ∀ o, (W1.alloc (.cells #[.slice none 0 0, .int .i64 0] 25)).frozen? ⟨W1.heap.size, o, none⟩ = false := fun o => by simp [go_sem]
  have rsL_W2 : W1.heap.size < (W1.alloc (.cells #[.slice none 0 0, .int .i64 0] 25)).heap.size := by simp
  have ab_W2 := alloc_below W1 (.cells #[.slice none 0 0, .int .i64 0] 25)
  have as_W2 : Hid ((W1.alloc (.cells #[.slice none 0 0, .int .i64 0] 25)).heap.size = W1.heap.size + 1) := hidP (by simp)
  generalize W1.alloc (.cells #[.slice none 0 0, .int .i64 0] 25) = W2 at *
  have bk0_W2 := (ab_W2.cell bkL_W1).trans bk0_W1
  have bk1_W2 := (ab_W2.cell bkL_W1).trans bk1_W1
  have bkF_W2 : ∀ o, W2.frozen? ⟨w.heap.size, o, none⟩ = false := fun o => (ab_W2.frozen bkL_W1).trans (bkF_W1 o)
  have bkL_W2 : w.heap.size < W2.heap.size := Nat.lt_of_lt_of_le bkL_W1 ab_W2.size
  have acc_W2 := hidP (acc_W1.out.trans (ab_W2.mono acc_W1.out.size))
  have sz_W2 : Hid (W1.heap.size ≤ W2.heap.size) := hidP ab_W2.size
  clear ab_W2 bk0_W1 bk1_W1 bkF_W1 bkL_W1 acc_W1
  rw [as_W1.out] at rs0_W2 rs1_W2 rsL_W2
  have rsF_W2' : ∀ o, W2.frozen? ⟨w.heap.size + 1, o, none⟩ = false := fun o => by have := rsF_W2 o; rw [as_W1.out] at this; exact this
  clear rsF_W2
  have rsF_W2 := rsF_W2'
  clear rsF_W2'
  refine (HCp.out _ acc_W2.out).mono ?_
  rintro e w3 ⟨a3, c3, rfl, og3, hb3⟩
  have OG := hidP og3
  clear og3
  have bk0_w3 := (hb3.cell bkL_W2).trans bk0_W2
  have bk1_w3 := (hb3.cell bkL_W2).trans bk1_W2
  have bkF_w3 : ∀ o, w3.frozen? ⟨w.heap.size, o, none⟩ = false := fun o => (hb3.frozen bkL_W2).trans (bkF_W2 o)
  have bkL_w3 : w.heap.size < w3.heap.size := Nat.lt_of_lt_of_le bkL_W2 hb3.size
  have rs0_w3 := (hb3.cell rsL_W2).trans rs0_W2
  have rs1_w3 := (hb3.cell rsL_W2).trans rs1_W2
  have rsF_w3 : ∀ o, w3.frozen? ⟨w.heap.size + 1, o, none⟩ = false := fun o => (hb3.frozen rsL_W2).trans (rsF_W2 o)
  have rsL_w3 : w.heap.size + 1 < w3.heap.size := Nat.lt_of_lt_of_le rsL_W2 hb3.size
  have acc_w3 := hidP (acc_W2.out.trans (hb3.mono acc_W2.out.size))
  have sz_w3 : Hid (W2.heap.size ≤ w3.heap.size) := hidP hb3.size
  clear hb3 bk0_W2 bk1_W2 bkF_W2 bkL_W2 rs0_W2 rs1_W2 rsF_W2 rsL_W2 acc_W2
  have oL_w3 := hidP (OG.out)
  have lhL : Hid (∀ k, (Value.slice a3 n c3).ownBlock = some k → W2.heap.size ≤ k ∧ k < w3.heap.size) := hidP (fun k hk => OwnG.lt oL_w3.out k hk)
  clear OG
  go_wp2_with fail
  obtain ⟨ou0_W4, ou1_W4⟩ := box2D w3 25 (.slice a3 n c3) (.int .i64 N)
  have ouF_W4 : ∀ o, (w3.alloc (.cells #[.slice a3 n c3, .int .i64 N] 25)).frozen? ⟨w3.heap.size, o, none⟩ = false := fun o => by simp [go_sem]
  have ouL_W4 : w3.heap.size < (w3.alloc (.cells #[.slice a3 n c3, .int .i64 N] 25)).heap.size := by simp
  have ab_W4 := alloc_below w3 (.cells #[.slice a3 n c3, .int .i64 N] 25)
  have as_W4 : Hid ((w3.alloc (.cells #[.slice a3 n c3, .int .i64 N] 25)).heap.size = w3.heap.size + 1) := hidP (by simp)
  generalize w3.alloc (.cells #[.slice a3 n c3, .int .i64 N] 25) = W4 at *
  have bk0_W4 := (ab_W4.cell bkL_w3).trans bk0_w3
  have bk1_W4 := (ab_W4.cell bkL_w3).trans bk1_w3
  have bkF_W4 : ∀ o, W4.frozen? ⟨w.heap.size, o, none⟩ = false := fun o => (ab_W4.frozen bkL_w3).trans (bkF_w3 o)
  have bkL_W4 : w.heap.size < W4.heap.size := Nat.lt_of_lt_of_le bkL_w3 ab_W4.size
  have rs0_W4 := (ab_W4.cell rsL_w3).trans rs0_w3
  have rs1_W4 := (ab_W4.cell rsL_w3).trans rs1_w3
  have rsF_W4 : ∀ o, W4.frozen? ⟨w.heap.size + 1, o, none⟩ = false := fun o => (ab_W4.frozen rsL_w3).trans (rsF_w3 o)
  have rsL_W4 : w.heap.size + 1 < W4.heap.size := Nat.lt_of_lt_of_le rsL_w3 ab_W4.size
  have oL_W4 := hidP (OwnG.later oL_w3.out ab_W4)
  have acc_W4 := hidP (acc_w3.out.trans (ab_W4.mono acc_w3.out.size))
  have sz_W4 : Hid (w3.heap.size ≤ W4.heap.size) := hidP ab_W4.size
  clear ab_W4 bk0_w3 bk1_w3 bkF_w3 bkL_w3 rs0_w3 rs1_w3 rsF_w3 rsL_w3 oL_w3 acc_w3
  refine (HSp.out _).mono ?_
  rintro e w5 ⟨rfl, hb5⟩
  have bk0_w5 := (hb5.cell bkL_W4).trans bk0_W4
  have bk1_w5 := (hb5.cell bkL_W4).trans bk1_W4
  have bkF_w5 : ∀ o, w5.frozen? ⟨w.heap.size, o, none⟩ = false := fun o => (hb5.frozen bkL_W4).trans (bkF_W4 o)
  have bkL_w5 : w.heap.size < w5.heap.size := Nat.lt_of_lt_of_le bkL_W4 hb5.size
  have rs0_w5 := (hb5.cell rsL_W4).trans rs0_W4
  have rs1_w5 := (hb5.cell rsL_W4).trans rs1_W4
  have rsF_w5 : ∀ o, w5.frozen? ⟨w.heap.size + 1, o, none⟩ = false := fun o => (hb5.frozen rsL_W4).trans (rsF_W4 o)
  have rsL_w5 : w.heap.size + 1 < w5.heap.size := Nat.lt_of_lt_of_le rsL_W4 hb5.size
  have ou0_w5 := (hb5.cell ouL_W4).trans ou0_W4
  have ou1_w5 := (hb5.cell ouL_W4).trans ou1_W4
  have ouF_w5 : ∀ o, w5.frozen? ⟨w3.heap.size, o, none⟩ = false := fun o => (hb5.frozen ouL_W4).trans (ouF_W4 o)
  have ouL_w5 : w3.heap.size < w5.heap.size := Nat.lt_of_lt_of_le ouL_W4 hb5.size
  have oL_w5 := hidP (OwnG.later oL_W4.out hb5)
  have acc_w5 := hidP (acc_W4.out.trans (hb5.mono acc_W4.out.size))
  have sz_w5 : Hid (W4.heap.size ≤ w5.heap.size) := hidP hb5.size
  clear hb5 bk0_W4 bk1_W4 bkF_W4 bkL_W4 rs0_W4 rs1_W4 rsF_W4 rsL_W4 ou0_W4 ou1_W4 ouF_W4 ouL_W4 oL_W4 acc_W4
  go_wp2_with fail
  refine bodyPost_ret (v := .tuple #[.agg #[.slice a3 n c3, .int .i64 N], .bool false]) (by simp [results, Try.results18, go_sem, rs0_w5, rs1_w5]) rfl ⟨_, _, rfl, ?_, ?_⟩
  · refine OwnG.mono (B := W2.heap.size) ?_ (by have := as_W1.out; have := sz_W1.out; have := as_W2.out; have := sz_W2.out; have := sz_w3.out; have := as_W4.out; have := sz_W4.out; have := sz_w5.out; omega)
    iterate 2 (with_reducible refine OwnG.grown ?_ (grown_cellG _ _ _ _) ?_; rotate_left; (focus (first | exact OwnG.ne_of oL_w5.out (by have := as_W1.out; have := sz_W1.out; have := as_W2.out; have := sz_W2.out; have := sz_w3.out; have := as_W4.out; have := sz_W4.out; have := sz_w5.out; omega))))
    with_reducible exact oL_w5.out
  · repeat (with_reducible refine Below.setCell ?_ ?_ _; rotate_left; (focus (first | (simp; done) | (simp; omega) | (dsimp only; have := as_W1.out; have := sz_W1.out; have := as_W2.out; have := sz_W2.out; have := sz_w3.out; have := as_W4.out; have := sz_W4.out; have := sz_w5.out; omega))))
    exact acc_w5.out

set_option maxRecDepth 10000 in
set_option maxHeartbeats 4000000 in
theorem sAd_yes (a : Option Addr) (n c : Nat) (N : Int) (zs : List Int) (w : World) (hn : n = zs.length) (hB : RowG KBy w a zs) (b : Option Addr) (m d : Nat) (bs : List Int) (hm : m = bs.length) (hD : RowG KBy w b bs) (hc : a = none → c = 0) (hl : n ≤ 1048576) (hd : b = none → d = 0) (hr : okF n N = true) (hb : n + m ≤ 400000) :
    Calls Try.prog 18 #[.agg #[.slice a n c, .int .i64 N], .slice b m d] w fun e w' => ∃ a' c', e = .returned (.tuple #[.agg #[.slice a' (n + m) c', .int .i64 N], .bool true]) ∧ OwnG KBy 5 w' w.heap.size (.slice a' (n + m) c') (zs ++ bs) ∧ Below w.heap.size w w' := by
  have HCp := hidP (fun W h => l11Copy_any a n c N zs W hn (hB.later h) hc hl)
  have HSp := hidP (fun W => sFileOk_any a n c N W)
  rw [hr] at HSp
  have e2 : IntKind.i64.wrap ((n : Int) + (m : Int)) = (n : Int) + (m : Int) := by rw [IntKind.wrap_i64]; omega
  have d1 : decide (400000 < (n : Int) + (m : Int)) = false := decide_eq_false (by omega)
  have d2 : ¬ 400000 < (n : Int) + (m : Int) := by omega
  have HSr := hidP (fun W h => src_rowG (P := Try.prog) (w := W) (K := KBy) Try.tyBy.1 m d (by show 0 < 1; omega) hm (hD.later h) hd)
  have HN := hidP hn
  have HM := hidP hm
  clear hB hD hn hm hr hc hd
  go_enter Try.func18, Try.ntmps18
  go_wp2_with fail
  obtain ⟨bk0_W1, bk1_W1⟩ := box2D w 25 (.slice a n c) (.int .i64 N)
  have bkF_W1 : ∀ o, (w.alloc (.cells #[.slice a n c, .int .i64 N] 25)).frozen? ⟨w.heap.size, o, none⟩ = false := fun o => by simp [go_sem]
  have bkL_W1 : w.heap.size < (w.alloc (.cells #[.slice a n c, .int .i64 N] 25)).heap.size := by simp
  have ab_W1 := alloc_below w (.cells #[.slice a n c, .int .i64 N] 25)
  have as_W1 : Hid ((w.alloc (.cells #[.slice a n c, .int .i64 N] 25)).heap.size = w.heap.size + 1) := hidP (by simp)
  generalize w.alloc (.cells #[.slice a n c, .int .i64 N] 25) = W1 at *
  have acc_W1 := hidP (ab_W1)
  have sz_W1 : Hid (w.heap.size ≤ W1.heap.size) := hidP ab_W1.size
  clear ab_W1 
  obtain ⟨rs0_W2, rs1_W2⟩ := box2D W1 25 (.slice none 0 0) (.int .i64 0)
  have rsF_W2 : ∀ o, (W1.alloc (.cells #[.slice none 0 0, .int .i64 0] 25)).frozen? ⟨W1.heap.size, o, none⟩ = false := fun o => by simp [go_sem]
  have rsL_W2 : W1.heap.size < (W1.alloc (.cells #[.slice none 0 0, .int .i64 0] 25)).heap.size := by simp
  have ab_W2 := alloc_below W1 (.cells #[.slice none 0 0, .int .i64 0] 25)
  have as_W2 : Hid ((W1.alloc (.cells #[.slice none 0 0, .int .i64 0] 25)).heap.size = W1.heap.size + 1) := hidP (by simp)
  generalize W1.alloc (.cells #[.slice none 0 0, .int .i64 0] 25) = W2 at *
  have bk0_W2 := (ab_W2.cell bkL_W1).trans bk0_W1
  have bk1_W2 := (ab_W2.cell bkL_W1).trans bk1_W1
  have bkF_W2 : ∀ o, W2.frozen? ⟨w.heap.size, o, none⟩ = false := fun o => (ab_W2.frozen bkL_W1).trans (bkF_W1 o)
  have bkL_W2 : w.heap.size < W2.heap.size := Nat.lt_of_lt_of_le bkL_W1 ab_W2.size
  have acc_W2 := hidP (acc_W1.out.trans (ab_W2.mono acc_W1.out.size))
  have sz_W2 : Hid (W1.heap.size ≤ W2.heap.size) := hidP ab_W2.size
  clear ab_W2 bk0_W1 bk1_W1 bkF_W1 bkL_W1 acc_W1
  rw [as_W1.out] at rs0_W2 rs1_W2 rsL_W2
  have rsF_W2' : ∀ o, W2.frozen? ⟨w.heap.size + 1, o, none⟩ = false := fun o => by have := rsF_W2 o; rw [as_W1.out] at this; exact this
  clear rsF_W2
  have rsF_W2 := rsF_W2'
  clear rsF_W2'
  refine (HCp.out _ acc_W2.out).mono ?_
  rintro e w3 ⟨a3, c3, rfl, og3, hb3⟩
  have OG := hidP og3
  clear og3
  have bk0_w3 := (hb3.cell bkL_W2).trans bk0_W2
  have bk1_w3 := (hb3.cell bkL_W2).trans bk1_W2
  have bkF_w3 : ∀ o, w3.frozen? ⟨w.heap.size, o, none⟩ = false := fun o => (hb3.frozen bkL_W2).trans (bkF_W2 o)
  have bkL_w3 : w.heap.size < w3.heap.size := Nat.lt_of_lt_of_le bkL_W2 hb3.size
  have rs0_w3 := (hb3.cell rsL_W2).trans rs0_W2
  have rs1_w3 := (hb3.cell rsL_W2).trans rs1_W2
  have rsF_w3 : ∀ o, w3.frozen? ⟨w.heap.size + 1, o, none⟩ = false := fun o => (hb3.frozen rsL_W2).trans (rsF_W2 o)
  have rsL_w3 : w.heap.size + 1 < w3.heap.size := Nat.lt_of_lt_of_le rsL_W2 hb3.size
  have acc_w3 := hidP (acc_W2.out.trans (hb3.mono acc_W2.out.size))
  have sz_w3 : Hid (W2.heap.size ≤ w3.heap.size) := hidP hb3.size
  clear hb3 bk0_W2 bk1_W2 bkF_W2 bkL_W2 rs0_W2 rs1_W2 rsF_W2 rsL_W2 acc_W2
  have oL_w3 := hidP (OG.out)
  have lhL : Hid (∀ k, (Value.slice a3 n c3).ownBlock = some k → W2.heap.size ≤ k ∧ k < w3.heap.size) := hidP (fun k hk => OwnG.lt oL_w3.out k hk)
  clear OG
  go_wp2_with fail
  obtain ⟨ou0_W4, ou1_W4⟩ := box2D w3 25 (.slice a3 n c3) (.int .i64 N)
  have ouF_W4 : ∀ o, (w3.alloc (.cells #[.slice a3 n c3, .int .i64 N] 25)).frozen? ⟨w3.heap.size, o, none⟩ = false := fun o => by simp [go_sem]
  have ouL_W4 : w3.heap.size < (w3.alloc (.cells #[.slice a3 n c3, .int .i64 N] 25)).heap.size := by simp
  have ab_W4 := alloc_below w3 (.cells #[.slice a3 n c3, .int .i64 N] 25)
  have as_W4 : Hid ((w3.alloc (.cells #[.slice a3 n c3, .int .i64 N] 25)).heap.size = w3.heap.size + 1) := hidP (by simp)
  generalize w3.alloc (.cells #[.slice a3 n c3, .int .i64 N] 25) = W4 at *
  have bk0_W4 := (ab_W4.cell bkL_w3).trans bk0_w3
  have bk1_W4 := (ab_W4.cell bkL_w3).trans bk1_w3
  have bkF_W4 : ∀ o, W4.frozen? ⟨w.heap.size, o, none⟩ = false := fun o => (ab_W4.frozen bkL_w3).trans (bkF_w3 o)
  have bkL_W4 : w.heap.size < W4.heap.size := Nat.lt_of_lt_of_le bkL_w3 ab_W4.size
  have rs0_W4 := (ab_W4.cell rsL_w3).trans rs0_w3
  have rs1_W4 := (ab_W4.cell rsL_w3).trans rs1_w3
  have rsF_W4 : ∀ o, W4.frozen? ⟨w.heap.size + 1, o, none⟩ = false := fun o => (ab_W4.frozen rsL_w3).trans (rsF_w3 o)
  have rsL_W4 : w.heap.size + 1 < W4.heap.size := Nat.lt_of_lt_of_le rsL_w3 ab_W4.size
  have oL_W4 := hidP (OwnG.later oL_w3.out ab_W4)
  have acc_W4 := hidP (acc_w3.out.trans (ab_W4.mono acc_w3.out.size))
  have sz_W4 : Hid (w3.heap.size ≤ W4.heap.size) := hidP ab_W4.size
  clear ab_W4 bk0_w3 bk1_w3 bkF_w3 bkL_w3 rs0_w3 rs1_w3 rsF_w3 rsL_w3 oL_w3 acc_w3
  refine (HSp.out _).mono ?_
  rintro e w5 ⟨rfl, hb5⟩
  have bk0_w5 := (hb5.cell bkL_W4).trans bk0_W4
  have bk1_w5 := (hb5.cell bkL_W4).trans bk1_W4
  have bkF_w5 : ∀ o, w5.frozen? ⟨w.heap.size, o, none⟩ = false := fun o => (hb5.frozen bkL_W4).trans (bkF_W4 o)
  have bkL_w5 : w.heap.size < w5.heap.size := Nat.lt_of_lt_of_le bkL_W4 hb5.size
  have rs0_w5 := (hb5.cell rsL_W4).trans rs0_W4
  have rs1_w5 := (hb5.cell rsL_W4).trans rs1_W4
  have rsF_w5 : ∀ o, w5.frozen? ⟨w.heap.size + 1, o, none⟩ = false := fun o => (hb5.frozen rsL_W4).trans (rsF_W4 o)
  have rsL_w5 : w.heap.size + 1 < w5.heap.size := Nat.lt_of_lt_of_le rsL_W4 hb5.size
  have ou0_w5 := (hb5.cell ouL_W4).trans ou0_W4
  have ou1_w5 := (hb5.cell ouL_W4).trans ou1_W4
  have ouF_w5 : ∀ o, w5.frozen? ⟨w3.heap.size, o, none⟩ = false := fun o => (hb5.frozen ouL_W4).trans (ouF_W4 o)
  have ouL_w5 : w3.heap.size < w5.heap.size := Nat.lt_of_lt_of_le ouL_W4 hb5.size
  have oL_w5 := hidP (OwnG.later oL_W4.out hb5)
  have acc_w5 := hidP (acc_W4.out.trans (hb5.mono acc_W4.out.size))
  have sz_w5 : Hid (W4.heap.size ≤ w5.heap.size) := hidP hb5.size
  clear hb5 bk0_W4 bk1_W4 bkF_W4 bkL_W4 rs0_W4 rs1_W4 rsF_W4 rsL_W4 ou0_W4 ou1_W4 ouF_W4 ouL_W4 oL_W4 acc_W4
  have nA : ¬ (w3.heap.size = w.heap.size + 1) := by have := as_W1.out; have := sz_W1.out; have := as_W2.out; have := sz_W2.out; have := sz_w3.out; have := as_W4.out; have := sz_W4.out; have := sz_w5.out; omega
  have nB : ¬ (w.heap.size + 1 = w3.heap.size) := by omega
  go_wp2_with (at_builtin; refine stp ?_)
  unfold Stp
  refine wpList_appG Try.tyBy _ rfl (.tmp 23) (.tmp 24) 22 rfl W2.heap.size a3 n c3 m zs bs (.slice b m d) rfl HN.out HM.out oL_w5.out rfl (HSr.out _ acc_w5.out) (by omega) (by have := as_W1.out; have := sz_W1.out; have := as_W2.out; have := sz_W2.out; have := sz_w3.out; have := as_W4.out; have := sz_W4.out; have := sz_w5.out; omega) ?_
  intro a9 c9 w9 ho9 hg9 ht9
  have NE9 : Hid (∀ k, (Value.slice a9 (n + m) c9).ownBlock = some k → k ≠ w3.heap.size) := hidP (app_ne (x := w3.heap.size) (L := w3.heap.size) ht9 (fun k hk => (lhL.out k hk).2) (Nat.le_refl _) (by have := as_W1.out; have := sz_W1.out; have := as_W2.out; have := sz_W2.out; have := sz_w3.out; have := as_W4.out; have := sz_W4.out; have := sz_w5.out; omega))
  have OA := hidP ho9
  clear ho9 ht9
  have nebk : ∀ k, (Value.slice a3 n c3).ownBlock = some k → k ≠ w.heap.size := fun k hk => by have h5 := lhL.out k hk; have := as_W1.out; have := sz_W1.out; have := as_W2.out; have := sz_W2.out; have := sz_w3.out; have := as_W4.out; have := sz_W4.out; have := sz_w5.out; omega
  have bk0_w9 := cell_grown hg9 bk0_w5 nebk
  have bk1_w9 := cell_grown hg9 bk1_w5 nebk
  have bkF_w9 : ∀ o, w9.frozen? ⟨w.heap.size, o, none⟩ = false := fun o => frz_grown hg9 bkL_w5 (bkF_w5 o) nebk
  have bkL_w9 : w.heap.size < w9.heap.size := Nat.lt_of_lt_of_le bkL_w5 hg9.size
  have ners : ∀ k, (Value.slice a3 n c3).ownBlock = some k → k ≠ w.heap.size + 1 := fun k hk => by have h5 := lhL.out k hk; have := as_W1.out; have := sz_W1.out; have := as_W2.out; have := sz_W2.out; have := sz_w3.out; have := as_W4.out; have := sz_W4.out; have := sz_w5.out; omega
  have rs0_w9 := cell_grown hg9 rs0_w5 ners
  have rs1_w9 := cell_grown hg9 rs1_w5 ners
  have rsF_w9 : ∀ o, w9.frozen? ⟨w.heap.size + 1, o, none⟩ = false := fun o => frz_grown hg9 rsL_w5 (rsF_w5 o) ners
  have rsL_w9 : w.heap.size + 1 < w9.heap.size := Nat.lt_of_lt_of_le rsL_w5 hg9.size
  have neou : ∀ k, (Value.slice a3 n c3).ownBlock = some k → k ≠ w3.heap.size := fun k hk => by have h5 := lhL.out k hk; have := as_W1.out; have := sz_W1.out; have := as_W2.out; have := sz_W2.out; have := sz_w3.out; have := as_W4.out; have := sz_W4.out; have := sz_w5.out; omega
  have ou0_w9 := cell_grown hg9 ou0_w5 neou
  have ou1_w9 := cell_grown hg9 ou1_w5 neou
  have ouF_w9 : ∀ o, w9.frozen? ⟨w3.heap.size, o, none⟩ = false := fun o => frz_grown hg9 ouL_w5 (ouF_w5 o) neou
  have ouL_w9 : w3.heap.size < w9.heap.size := Nat.lt_of_lt_of_le ouL_w5 hg9.size
  have oL_w9 := hidP (OA.out)
  have acc_w9 := hidP (Below.grown acc_w5.out hg9 acc_w5.out.size (fun k hk => by have h5 := lhL.out k hk; have := as_W1.out; have := sz_W1.out; have := as_W2.out; have := sz_W2.out; have := sz_w3.out; have := as_W4.out; have := sz_W4.out; have := sz_w5.out; omega))
  have sz_w9 : Hid (w5.heap.size ≤ w9.heap.size) := hidP hg9.size
  clear hg9 bk0_w5 bk1_w5 bkF_w5 bkL_w5 nebk rs0_w5 rs1_w5 rsF_w5 rsL_w5 ners ou0_w5 ou1_w5 ouF_w5 ouL_w5 neou oL_w5 acc_w5
  clear OA
  go_wp2_with fail
  refine bodyPost_ret (v := .tuple #[.agg #[.slice a9 (n + m) c9, .int .i64 N], .bool true]) (by simp [results, Try.results18, go_sem, rs0_w9, rs1_w9]) rfl ⟨_, _, rfl, ?_, ?_⟩
  · refine OwnG.mono (B := W2.heap.size) ?_ (by have := as_W1.out; have := sz_W1.out; have := as_W2.out; have := sz_W2.out; have := sz_w3.out; have := as_W4.out; have := sz_W4.out; have := sz_w5.out; have := sz_w9.out; omega)
    have NE8 : ∀ k, (Value.slice a9 (n + m) c9).ownBlock = some k → some w3.heap.size ≠ some k := fun k hk e => NE9.out k hk (Option.some.inj e).symm
    iterate 3 (with_reducible refine OwnG.grown ?_ (grown_cellG _ _ _ _) ?_; rotate_left; (focus (first | exact OwnG.ne_of oL_w9.out (by have := as_W1.out; have := sz_W1.out; have := as_W2.out; have := sz_W2.out; have := sz_w3.out; have := as_W4.out; have := sz_W4.out; have := sz_w5.out; have := sz_w9.out; omega) | exact NE8)))
    with_reducible exact oL_w9.out
  · repeat (with_reducible refine Below.setCell ?_ ?_ _; rotate_left; (focus (first | (simp; done) | (simp; omega) | (dsimp only; have := as_W1.out; have := sz_W1.out; have := as_W2.out; have := sz_W2.out; have := sz_w3.out; have := as_W4.out; have := sz_W4.out; have := sz_w5.out; have := sz_w9.out; omega))))
    exact acc_w9.out

end Go.Proofs.Ytfhlplpiojhhmaa
