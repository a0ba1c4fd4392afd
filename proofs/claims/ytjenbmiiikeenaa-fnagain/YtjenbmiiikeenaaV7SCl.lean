/-
  The specification's CloseSession.
-/
import Derived.Test.YtjenbmiiikeenaaV7Fnd
import Derived.Test.YtjenbmiiikeenaaV7ICl
namespace Go.Proofs.Ytjenbmiiikeenaa
open Go.RowKit

theorem RowG.takeG {α : Type} {K : Kd α} {w : World} {a : Option Addr} {ps : List α} (h : RowG K w a ps) (i : Nat) : RowG K w a (ps.take i) := fun j hj => by
  rw [List.length_take] at hj
  obtain ⟨p, o, q, ha, hp, hq, c⟩ := h j (by omega)
  exact ⟨p, o, q, ha, hp, by rw [List.getElem?_take, if_pos (by omega)]; exact hq, c⟩
theorem RowG.fromG {α : Type} {K : Kd α} {w : World} {g : Nat} {ps : List α} (h : RowG K w (some ⟨g, 0, none⟩) ps) (j : Nat) : RowG K w (some ⟨g, j * K.k, none⟩) (ps.drop j) := fun i hi => by
  rw [List.length_drop] at hi
  obtain ⟨p, o, q, ha, hp, hq, c⟩ := h (j + i) (by omega)
  simp only [Option.some.injEq, Addr.mk.injEq, and_true] at ha
  obtain ⟨rfl, rfl⟩ := ha
  refine ⟨_, _, q, rfl, hp, by rw [List.getElem?_drop]; exact hq, fun x v hv => ?_⟩
  have := c x v hv
  rw [Nat.zero_add, Nat.add_mul] at this
  exact this

theorem erase_eqS (ps : List Ss) (i : Nat) : ps.take i ++ ps.drop (i + 1) = ps.eraseIdx i := (List.eraseIdx_eq_take_drop_succ ps i).symm
set_option maxRecDepth 10000 in
set_option maxHeartbeats 4000000 in
theorem sCl_form (a : Option Addr) (n c : Nat) (N : Int) (ls : List Ss) (w : World) (hn : n = ls.length) (hB : RowG KSs w a ls) (hc : a = none → c = 0) (hl : n ≤ 1048576) (id : Int) (hr : dkB ls N = false) :
    Calls Try.prog 39 #[.agg #[.slice a n c, .int .i64 N], .int .i64 id] w fun e w' => ∃ a' c', e = .returned (.tuple #[.agg #[.slice a' n c', .int .i64 N], .bool false]) ∧ OwnG KSs 39 w' w.heap.size (.slice a' n c') (ls) ∧ Below w.heap.size w w' := by
  have HCp := hidP (fun W h => l7Copy_any a n c N ls W hn (hB.later h) hc hl)
  have HSp := hidP (fun W h => sDeskOk_any a n c N ls W hn (hB.later h) hl)
  have HF := hidP (fun W h => l7Find_any a n c N ls W hn (hB.later h) hl id)
  rw [hr] at HSp
  generalize fxS id ls = fx at *
  clear hB hn hr hc
  go_enter Try.func39, Try.ntmps39
  go_wp2_with fail
  obtain ⟨bk0_W1, bk1_W1⟩ := box2D w 26 (.slice a n c) (.int .i64 N)
  have bkF_W1 : ∀ o, (w.alloc (.cells #[.slice a n c, .int .i64 N] 26)).frozen? ⟨w.heap.size, o, none⟩ = false := fun o => by simp [go_sem]
  have bkL_W1 : w.heap.size < (w.alloc (.cells #[.slice a n c, .int .i64 N] 26)).heap.size := by simp
  have ab_W1 := alloc_below w (.cells #[.slice a n c, .int .i64 N] 26)
  have as_W1 : Hid ((w.alloc (.cells #[.slice a n c, .int .i64 N] 26)).heap.size = w.heap.size + 1) := hidP (by simp)
  generalize w.alloc (.cells #[.slice a n c, .int .i64 N] 26) = W1 at *
  have acc_W1 := hidP (ab_W1)
  have sz_W1 : Hid (w.heap.size ≤ W1.heap.size) := hidP ab_W1.size
  clear ab_W1 
  obtain ⟨rs0_W2, rs1_W2⟩ := box2D W1 26 (.slice none 0 0) (.int .i64 0)
  have rsF_W2 : ∀ o, (W1.alloc (.cells #[.slice none 0 0, .int .i64 0] 26)).frozen? ⟨W1.heap.size, o, none⟩ = false := fun o => by simp [go_sem]
  have rsL_W2 : W1.heap.size < (W1.alloc (.cells #[.slice none 0 0, .int .i64 0] 26)).heap.size := by simp
  have ab_W2 := alloc_below W1 (.cells #[.slice none 0 0, .int .i64 0] 26)
  have as_W2 : Hid ((W1.alloc (.cells #[.slice none 0 0, .int .i64 0] 26)).heap.size = W1.heap.size + 1) := hidP (by simp)
  generalize W1.alloc (.cells #[.slice none 0 0, .int .i64 0] 26) = W2 at *
  have bk0_W2 := (ab_W2.cell bkL_W1).trans bk0_W1
  have bk1_W2 := (ab_W2.cell bkL_W1).trans bk1_W1
  have bkF_W2 : ∀ o, W2.frozen? ⟨w.heap.size, o, none⟩ = false := fun o => (ab_W2.frozen bkL_W1).trans (bkF_W1 o)
  have bkL_W2 : w.heap.size < W2.heap.size := Nat.lt_of_lt_of_le bkL_W1 ab_W2.size
  have acc_W2 := hidP (acc_W1.out.trans (ab_W2.mono acc_W1.out.size))
  have sz_W2 : Hid (W1.heap.size ≤ W2.heap.size) := hidP ab_W2.size
  clear ab_W2 bk0_W1 bk1_W1 bkF_W1 bkL_W1 acc_W1
  rw [as_W1.out] at rs0_W2 rs1_W2 rsL_W2
  have rsF_W2' : ∀ o, W2.frozen? ⟨w.heap.size + 1, o, none⟩ = false := fun o => by have := rsF_W2 o; rw [as_W1.out] at this; exact this
  clear rsF_W2
  have rsF_W2 := rsF_W2'
  clear rsF_W2'
  refine (HCp.out _ acc_W2.out).mono ?_
  rintro e w3 ⟨a3, c3, rfl, og3, hb3⟩
  have OG := hidP og3
  clear og3
  have bk0_w3 := (hb3.cell bkL_W2).trans bk0_W2
  have bk1_w3 := (hb3.cell bkL_W2).trans bk1_W2
  have bkF_w3 : ∀ o, w3.frozen? ⟨w.heap.size, o, none⟩ = false := fun o => (hb3.frozen bkL_W2).trans (bkF_W2 o)
  have bkL_w3 : w.heap.size < w3.heap.size := Nat.lt_of_lt_of_le bkL_W2 hb3.size
  have rs0_w3 := (hb3.cell rsL_W2).trans rs0_W2
  have rs1_w3 := (hb3.cell rsL_W2).trans rs1_W2
  have rsF_w3 : ∀ o, w3.frozen? ⟨w.heap.size + 1, o, none⟩ = false := fun o => (hb3.frozen rsL_W2).trans (rsF_W2 o)
  have rsL_w3 : w.heap.size + 1 < w3.heap.size := Nat.lt_of_lt_of_le rsL_W2 hb3.size
  have acc_w3 := hidP (acc_W2.out.trans (hb3.mono acc_W2.out.size))
  have sz_w3 : Hid (W2.heap.size ≤ w3.heap.size) := hidP hb3.size
  clear hb3 bk0_W2 bk1_W2 bkF_W2 bkL_W2 rs0_W2 rs1_W2 rsF_W2 rsL_W2 acc_W2
  have oL_w3 := hidP (OG.out)
  have lhL : Hid (∀ k, (Value.slice a3 n c3).ownBlock = some k → W2.heap.size ≤ k ∧ k < w3.heap.size) := hidP (fun k hk => OwnG.lt oL_w3.out k hk)
  clear OG
  go_wp2_with fail
  obtain ⟨ou0_W4, ou1_W4⟩ := box2D w3 26 (.slice a3 n c3) (.int .i64 N)
  have ouF_W4 : ∀ o, (w3.alloc (.cells #[.slice a3 n c3, .int .i64 N] 26)).frozen? ⟨w3.heap.size, o, none⟩ = false := fun o => by simp [go_sem]
  have ouL_W4 : w3.heap.size < (w3.alloc (.cells #[.slice a3 n c3, .int .i64 N] 26)).heap.size := by simp
  have ab_W4 := alloc_below w3 (.cells #[.slice a3 n c3, .int .i64 N] 26)
  have as_W4 : Hid ((w3.alloc (.cells #[.slice a3 n c3, .int .i64 N] 26)).heap.size = w3.heap.size + 1) := hidP (by simp)
  generalize w3.alloc (.cells #[.slice a3 n c3, .int .i64 N] 26) = W4 at *
  have bk0_W4 := (ab_W4.cell bkL_w3).trans bk0_w3
  have bk1_W4 := (ab_W4.cell bkL_w3).trans bk1_w3
  have bkF_W4 : ∀ o, W4.frozen? ⟨w.heap.size, o, none⟩ = false := fun o => (ab_W4.frozen bkL_w3).trans (bkF_w3 o)
  have bkL_W4 : w.heap.size < W4.heap.size := Nat.lt_of_lt_of_le bkL_w3 ab_W4.size
  have rs0_W4 := (ab_W4.cell rsL_w3).trans rs0_w3
  have rs1_W4 := (ab_W4.cell rsL_w3).trans rs1_w3
  have rsF_W4 : ∀ o, W4.frozen? ⟨w.heap.size + 1, o, none⟩ = false := fun o => (ab_W4.frozen rsL_w3).trans (rsF_w3 o)
  have rsL_W4 : w.heap.size + 1 < W4.heap.size := Nat.lt_of_lt_of_le rsL_w3 ab_W4.size
  have oL_W4 := hidP (OwnG.later oL_w3.out ab_W4)
  have acc_W4 := hidP (acc_w3.out.trans (ab_W4.mono acc_w3.out.size))
  have sz_W4 : Hid (w3.heap.size ≤ W4.heap.size) := hidP ab_W4.size
  clear ab_W4 bk0_w3 bk1_w3 bkF_w3 bkL_w3 rs0_w3 rs1_w3 rsF_w3 rsL_w3 oL_w3 acc_w3
  refine (HF.out _ acc_W4.out).mono ?_
  rintro e w5 ⟨rfl, hb5⟩
  have bk0_w5 := (hb5.cell bkL_W4).trans bk0_W4
  have bk1_w5 := (hb5.cell bkL_W4).trans bk1_W4
  have bkF_w5 : ∀ o, w5.frozen? ⟨w.heap.size, o, none⟩ = false := fun o => (hb5.frozen bkL_W4).trans (bkF_W4 o)
  have bkL_w5 : w.heap.size < w5.heap.size := Nat.lt_of_lt_of_le bkL_W4 hb5.size
  have rs0_w5 := (hb5.cell rsL_W4).trans rs0_W4
  have rs1_w5 := (hb5.cell rsL_W4).trans rs1_W4
  have rsF_w5 : ∀ o, w5.frozen? ⟨w.heap.size + 1, o, none⟩ = false := fun o => (hb5.frozen rsL_W4).trans (rsF_W4 o)
  have rsL_w5 : w.heap.size + 1 < w5.heap.size := Nat.lt_of_lt_of_le rsL_W4 hb5.size
  have ou0_w5 := (hb5.cell ouL_W4).trans ou0_W4
  have ou1_w5 := (hb5.cell ouL_W4).trans ou1_W4
  have ouF_w5 : ∀ o, w5.frozen? ⟨w3.heap.size, o, none⟩ = false := fun o => (hb5.frozen ouL_W4).trans (ouF_W4 o)
  have ouL_w5 : w3.heap.size < w5.heap.size := Nat.lt_of_lt_of_le ouL_W4 hb5.size
  have oL_w5 := hidP (OwnG.later oL_W4.out hb5)
  have acc_w5 := hidP (acc_W4.out.trans (hb5.mono acc_W4.out.size))
  have sz_w5 : Hid (W4.heap.size ≤ w5.heap.size) := hidP hb5.size
  clear hb5 bk0_W4 bk1_W4 bkF_W4 bkL_W4 rs0_W4 rs1_W4 rsF_W4 rsL_W4 ou0_W4 ou1_W4 ouF_W4 ouL_W4 oL_W4 acc_W4
  go_wp2_with fail
  refine (HSp.out _ acc_w5.out).mono ?_
  rintro e w8 ⟨rfl, hb8⟩
  have bk0_w8 := (hb8.cell bkL_w5).trans bk0_w5
  have bk1_w8 := (hb8.cell bkL_w5).trans bk1_w5
  have bkF_w8 : ∀ o, w8.frozen? ⟨w.heap.size, o, none⟩ = false := fun o => (hb8.frozen bkL_w5).trans (bkF_w5 o)
  have bkL_w8 : w.heap.size < w8.heap.size := Nat.lt_of_lt_of_le bkL_w5 hb8.size
  have rs0_w8 := (hb8.cell rsL_w5).trans rs0_w5
  have rs1_w8 := (hb8.cell rsL_w5).trans rs1_w5
  have rsF_w8 : ∀ o, w8.frozen? ⟨w.heap.size + 1, o, none⟩ = false := fun o => (hb8.frozen rsL_w5).trans (rsF_w5 o)
  have rsL_w8 : w.heap.size + 1 < w8.heap.size := Nat.lt_of_lt_of_le rsL_w5 hb8.size
  have ou0_w8 := (hb8.cell ouL_w5).trans ou0_w5
  have ou1_w8 := (hb8.cell ouL_w5).trans ou1_w5
  have ouF_w8 : ∀ o, w8.frozen? ⟨w3.heap.size, o, none⟩ = false := fun o => (hb8.frozen ouL_w5).trans (ouF_w5 o)
  have ouL_w8 : w3.heap.size < w8.heap.size := Nat.lt_of_lt_of_le ouL_w5 hb8.size
  have oL_w8 := hidP (OwnG.later oL_w5.out hb8)
  have acc_w8 := hidP (acc_w5.out.trans (hb8.mono acc_w5.out.size))
  have sz_w8 : Hid (w5.heap.size ≤ w8.heap.size) := hidP hb8.size
  clear hb8 bk0_w5 bk1_w5 bkF_w5 bkL_w5 rs0_w5 rs1_w5 rsF_w5 rsL_w5 ou0_w5 ou1_w5 ouF_w5 ouL_w5 oL_w5 acc_w5
  go_wp2_with fail
  refine bodyPost_ret (v := .tuple #[.agg #[.slice a3 n c3, .int .i64 N], .bool false]) (by simp [results, Try.results39, go_sem, rs0_w8, rs1_w8]) rfl ⟨_, _, rfl, ?_, ?_⟩
  · refine OwnG.mono (B := W2.heap.size) ?_ (by have := as_W1.out; have := sz_W1.out; have := as_W2.out; have := sz_W2.out; have := sz_w3.out; have := as_W4.out; have := sz_W4.out; have := sz_w5.out; have := sz_w8.out; omega)
    iterate 2 (with_reducible refine OwnG.grown ?_ (grown_cellG _ _ _ _) ?_; rotate_left; (focus (first | exact OwnG.ne_of oL_w8.out (by have := as_W1.out; have := sz_W1.out; have := as_W2.out; have := sz_W2.out; have := sz_w3.out; have := as_W4.out; have := sz_W4.out; have := sz_w5.out; have := sz_w8.out; omega))))
    with_reducible exact oL_w8.out
  · repeat (with_reducible refine Below.setCell ?_ ?_ _; rotate_left; (focus (first | (simp; done) | (simp; omega) | (dsimp only; have := as_W1.out; have := sz_W1.out; have := as_W2.out; have := sz_W2.out; have := sz_w3.out; have := as_W4.out; have := sz_W4.out; have := sz_w5.out; have := sz_w8.out; omega))))
    exact acc_w8.out

set_option maxRecDepth 10000 in
set_option maxHeartbeats 4000000 in
theorem sCl_none (a : Option Addr) (n c : Nat) (N : Int) (ls : List Ss) (w : World) (hn : n = ls.length) (hB : RowG KSs w a ls) (hc : a = none → c = 0) (hl : n ≤ 1048576) (id : Int) (hr : dkB ls N = true) (hf : findS id ls = none) :
    Calls Try.prog 39 #[.agg #[.slice a n c, .int .i64 N], .int .i64 id] w fun e w' => ∃ a' c', e = .returned (.tuple #[.agg #[.slice a' n c', .int .i64 N], .bool false]) ∧ OwnG KSs 39 w' w.heap.size (.slice a' n c') (ls) ∧ Below w.heap.size w w' := by
  have HCp := hidP (fun W h => l7Copy_any a n c N ls W hn (hB.later h) hc hl)
  have HSp := hidP (fun W h => sDeskOk_any a n c N ls W hn (hB.later h) hl)
  have HF := hidP (fun W h => l7Find_any a n c N ls W hn (hB.later h) hl id)
  rw [hr] at HSp
  rw [fxS_none hf] at HF
  clear hB hn hr hf hc
  go_enter Try.func39, Try.ntmps39
  go_wp2_with fail
  obtain ⟨bk0_W1, bk1_W1⟩ := box2D w 26 (.slice a n c) (.int .i64 N)
  have bkF_W1 : ∀ o, (w.alloc (.cells #[.slice a n c, .int .i64 N] 26)).frozen? ⟨w.heap.size, o, none⟩ = false := fun o => by simp [go_sem]
  have bkL_W1 : w.heap.size < (w.alloc (.cells #[.slice a n c, .int .i64 N] 26)).heap.size := by simp
  have ab_W1 := alloc_below w (.cells #[.slice a n c, .int .i64 N] 26)
  have as_W1 : Hid ((w.alloc (.cells #[.slice a n c, .int .i64 N] 26)).heap.size = w.heap.size + 1) := hidP (by simp)
  generalize w.alloc (.cells #[.slice a n c, .int .i64 N] 26) = W1 at *
  have acc_W1 := hidP (ab_W1)
  have sz_W1 : Hid (w.heap.size ≤ W1.heap.size) := hidP ab_W1.size
  clear ab_W1 
  obtain ⟨rs0_W2, rs1_W2⟩ := box2D W1 26 (.slice none 0 0) (.int .i64 0)
  have rsF_W2 : ∀ o, (W1.alloc (.cells #[.slice none 0 0, .int .i64 0] 26)).frozen? ⟨W1.heap.size, o, none⟩ = false := fun o => by simp [go_sem]
  have rsL_W2 : W1.heap.size < (W1.alloc (.cells #[.slice none 0 0, .int .i64 0] 26)).heap.size := by simp
  have ab_W2 := alloc_below W1 (.cells #[.slice none 0 0, .int .i64 0] 26)
  have as_W2 : Hid ((W1.alloc (.cells #[.slice none 0 0, .int .i64 0] 26)).heap.size = W1.heap.size + 1) := hidP (by simp)
  generalize W1.alloc (.cells #[.slice none 0 0, .int .i64 0] 26) = W2 at *
  have bk0_W2 := (ab_W2.cell bkL_W1).trans bk0_W1
  have bk1_W2 := (ab_W2.cell bkL_W1).trans bk1_W1
  have bkF_W2 : ∀ o, W2.frozen? ⟨w.heap.size, o, none⟩ = false := fun o => (ab_W2.frozen bkL_W1).trans (bkF_W1 o)
  have bkL_W2 : w.heap.size < W2.heap.size := Nat.lt_of_lt_of_le bkL_W1 ab_W2.size
  have acc_W2 := hidP (acc_W1.out.trans (ab_W2.mono acc_W1.out.size))
  have sz_W2 : Hid (W1.heap.size ≤ W2.heap.size) := hidP ab_W2.size
  clear ab_W2 bk0_W1 bk1_W1 bkF_W1 bkL_W1 acc_W1
  rw [as_W1.out] at rs0_W2 rs1_W2 rsL_W2
  have rsF_W2' : ∀ o, W2.frozen? ⟨w.heap.size + 1, o, none⟩ = false := fun o => by have := rsF_W2 o; rw [as_W1.out] at this; exact this
  clear rsF_W2
  have rsF_W2 := rsF_W2'
  clear rsF_W2'
  refine (HCp.out _ acc_W2.out).mono ?_
  rintro e w3 ⟨a3, c3, rfl, og3, hb3⟩
  have OG := hidP og3
  clear og3
  have bk0_w3 := (hb3.cell bkL_W2).trans bk0_W2
  have bk1_w3 := (hb3.cell bkL_W2).trans bk1_W2
  have bkF_w3 : ∀ o, w3.frozen? ⟨w.heap.size, o, none⟩ = false := fun o => (hb3.frozen bkL_W2).trans (bkF_W2 o)
  have bkL_w3 : w.heap.size < w3.heap.size := Nat.lt_of_lt_of_le bkL_W2 hb3.size
  have rs0_w3 := (hb3.cell rsL_W2).trans rs0_W2
  have rs1_w3 := (hb3.cell rsL_W2).trans rs1_W2
  have rsF_w3 : ∀ o, w3.frozen? ⟨w.heap.size + 1, o, none⟩ = false := fun o => (hb3.frozen rsL_W2).trans (rsF_W2 o)
  have rsL_w3 : w.heap.size + 1 < w3.heap.size := Nat.lt_of_lt_of_le rsL_W2 hb3.size
  have acc_w3 := hidP (acc_W2.out.trans (hb3.mono acc_W2.out.size))
  have sz_w3 : Hid (W2.heap.size ≤ w3.heap.size) := hidP hb3.size
  clear hb3 bk0_W2 bk1_W2 bkF_W2 bkL_W2 rs0_W2 rs1_W2 rsF_W2 rsL_W2 acc_W2
  have oL_w3 := hidP (OG.out)
  have lhL : Hid (∀ k, (Value.slice a3 n c3).ownBlock = some k → W2.heap.size ≤ k ∧ k < w3.heap.size) := hidP (fun k hk => OwnG.lt oL_w3.out k hk)
  clear OG
  go_wp2_with fail
  obtain ⟨ou0_W4, ou1_W4⟩ := box2D w3 26 (.slice a3 n c3) (.int .i64 N)
  have ouF_W4 : ∀ o, (w3.alloc (.cells #[.slice a3 n c3, .int .i64 N] 26)).frozen? ⟨w3.heap.size, o, none⟩ = false := fun o => by simp [go_sem]
  have ouL_W4 : w3.heap.size < (w3.alloc (.cells #[.slice a3 n c3, .int .i64 N] 26)).heap.size := by simp
  have ab_W4 := alloc_below w3 (.cells #[.slice a3 n c3, .int .i64 N] 26)
  have as_W4 : Hid ((w3.alloc (.cells #[.slice a3 n c3, .int .i64 N] 26)).heap.size = w3.heap.size + 1) := hidP (by simp)
  generalize w3.alloc (.cells #[.slice a3 n c3, .int .i64 N] 26) = W4 at *
  have bk0_W4 := (ab_W4.cell bkL_w3).trans bk0_w3
  have bk1_W4 := (ab_W4.cell bkL_w3).trans bk1_w3
  have bkF_W4 : ∀ o, W4.frozen? ⟨w.heap.size, o, none⟩ = false := fun o => (ab_W4.frozen bkL_w3).trans (bkF_w3 o)
  have bkL_W4 : w.heap.size < W4.heap.size := Nat.lt_of_lt_of_le bkL_w3 ab_W4.size
  have rs0_W4 := (ab_W4.cell rsL_w3).trans rs0_w3
  have rs1_W4 := (ab_W4.cell rsL_w3).trans rs1_w3
  have rsF_W4 : ∀ o, W4.frozen? ⟨w.heap.size + 1, o, none⟩ = false := fun o => (ab_W4.frozen rsL_w3).trans (rsF_w3 o)
  have rsL_W4 : w.heap.size + 1 < W4.heap.size := Nat.lt_of_lt_of_le rsL_w3 ab_W4.size
  have oL_W4 := hidP (OwnG.later oL_w3.out ab_W4)
  have acc_W4 := hidP (acc_w3.out.trans (ab_W4.mono acc_w3.out.size))
  have sz_W4 : Hid (w3.heap.size ≤ W4.heap.size) := hidP ab_W4.size
  clear ab_W4 bk0_w3 bk1_w3 bkF_w3 bkL_w3 rs0_w3 rs1_w3 rsF_w3 rsL_w3 oL_w3 acc_w3
  refine (HF.out _ acc_W4.out).mono ?_
  rintro e w5 ⟨rfl, hb5⟩
  have bk0_w5 := (hb5.cell bkL_W4).trans bk0_W4
  have bk1_w5 := (hb5.cell bkL_W4).trans bk1_W4
  have bkF_w5 : ∀ o, w5.frozen? ⟨w.heap.size, o, none⟩ = false := fun o => (hb5.frozen bkL_W4).trans (bkF_W4 o)
  have bkL_w5 : w.heap.size < w5.heap.size := Nat.lt_of_lt_of_le bkL_W4 hb5.size
  have rs0_w5 := (hb5.cell rsL_W4).trans rs0_W4
  have rs1_w5 := (hb5.cell rsL_W4).trans rs1_W4
  have rsF_w5 : ∀ o, w5.frozen? ⟨w.heap.size + 1, o, none⟩ = false := fun o => (hb5.frozen rsL_W4).trans (rsF_W4 o)
  have rsL_w5 : w.heap.size + 1 < w5.heap.size := Nat.lt_of_lt_of_le rsL_W4 hb5.size
  have ou0_w5 := (hb5.cell ouL_W4).trans ou0_W4
  have ou1_w5 := (hb5.cell ouL_W4).trans ou1_W4
  have ouF_w5 : ∀ o, w5.frozen? ⟨w3.heap.size, o, none⟩ = false := fun o => (hb5.frozen ouL_W4).trans (ouF_W4 o)
  have ouL_w5 : w3.heap.size < w5.heap.size := Nat.lt_of_lt_of_le ouL_W4 hb5.size
  have oL_w5 := hidP (OwnG.later oL_W4.out hb5)
  have acc_w5 := hidP (acc_W4.out.trans (hb5.mono acc_W4.out.size))
  have sz_w5 : Hid (W4.heap.size ≤ w5.heap.size) := hidP hb5.size
  clear hb5 bk0_W4 bk1_W4 bkF_W4 bkL_W4 rs0_W4 rs1_W4 rsF_W4 rsL_W4 ou0_W4 ou1_W4 ouF_W4 ouL_W4 oL_W4 acc_W4
  go_wp2_with fail
  refine (HSp.out _ acc_w5.out).mono ?_
  rintro e w8 ⟨rfl, hb8⟩
  have bk0_w8 := (hb8.cell bkL_w5).trans bk0_w5
  have bk1_w8 := (hb8.cell bkL_w5).trans bk1_w5
  have bkF_w8 : ∀ o, w8.frozen? ⟨w.heap.size, o, none⟩ = false := fun o => (hb8.frozen bkL_w5).trans (bkF_w5 o)
  have bkL_w8 : w.heap.size < w8.heap.size := Nat.lt_of_lt_of_le bkL_w5 hb8.size
  have rs0_w8 := (hb8.cell rsL_w5).trans rs0_w5
  have rs1_w8 := (hb8.cell rsL_w5).trans rs1_w5
  have rsF_w8 : ∀ o, w8.frozen? ⟨w.heap.size + 1, o, none⟩ = false := fun o => (hb8.frozen rsL_w5).trans (rsF_w5 o)
  have rsL_w8 : w.heap.size + 1 < w8.heap.size := Nat.lt_of_lt_of_le rsL_w5 hb8.size
  have ou0_w8 := (hb8.cell ouL_w5).trans ou0_w5
  have ou1_w8 := (hb8.cell ouL_w5).trans ou1_w5
  have ouF_w8 : ∀ o, w8.frozen? ⟨w3.heap.size, o, none⟩ = false := fun o => (hb8.frozen ouL_w5).trans (ouF_w5 o)
  have ouL_w8 : w3.heap.size < w8.heap.size := Nat.lt_of_lt_of_le ouL_w5 hb8.size
  have oL_w8 := hidP (OwnG.later oL_w5.out hb8)
  have acc_w8 := hidP (acc_w5.out.trans (hb8.mono acc_w5.out.size))
  have sz_w8 : Hid (w5.heap.size ≤ w8.heap.size) := hidP hb8.size
  clear hb8 bk0_w5 bk1_w5 bkF_w5 bkL_w5 rs0_w5 rs1_w5 rsF_w5 rsL_w5 ou0_w5 ou1_w5 ouF_w5 ouL_w5 oL_w5 acc_w5
  go_wp2_with fail
  refine bodyPost_ret (v := .tuple #[.agg #[.slice a3 n c3, .int .i64 N], .bool false]) (by simp [results, Try.results39, go_sem, rs0_w8, rs1_w8]) rfl ⟨_, _, rfl, ?_, ?_⟩
  · refine OwnG.mono (B := W2.heap.size) ?_ (by have := as_W1.out; have := sz_W1.out; have := as_W2.out; have := sz_W2.out; have := sz_w3.out; have := as_W4.out; have := sz_W4.out; have := sz_w5.out; have := sz_w8.out; omega)
    iterate 2 (with_reducible refine OwnG.grown ?_ (grown_cellG _ _ _ _) ?_; rotate_left; (focus (first | exact OwnG.ne_of oL_w8.out (by have := as_W1.out; have := sz_W1.out; have := as_W2.out; have := sz_W2.out; have := sz_w3.out; have := as_W4.out; have := sz_W4.out; have := sz_w5.out; have := sz_w8.out; omega))))
    with_reducible exact oL_w8.out
  · repeat (with_reducible refine Below.setCell ?_ ?_ _; rotate_left; (focus (first | (simp; done) | (simp; omega) | (dsimp only; have := as_W1.out; have := sz_W1.out; have := as_W2.out; have := sz_W2.out; have := sz_w3.out; have := as_W4.out; have := sz_W4.out; have := sz_w5.out; have := sz_w8.out; omega))))
    exact acc_w8.out

set_option maxRecDepth 10000 in
set_option maxHeartbeats 4000000 in
theorem sCl_yes0 (g n : Nat) (N : Int) (ls : List Ss) (w : World) (hn : n = ls.length) (hB : RowG KSs w (some ⟨g, 0, none⟩) ls) (hl : n ≤ 1048576) (id : Int) (hr : dkB ls N = true) (I : Nat) (hI : I < n) (hf : findS id ls = some I) (hcj : n = I + 1) :
    Calls Try.prog 39 #[.agg #[.slice (some ⟨g, 0, none⟩) n n, .int .i64 N], .int .i64 id] w fun e w' => ∃ a' c', e = .returned (.tuple #[.agg #[.slice a' (n - 1) c', .int .i64 N], .bool true]) ∧ OwnG KSs 39 w' w.heap.size (.slice a' (n - 1) c') (ls.eraseIdx I) ∧ Below w.heap.size w w' := by
  subst hcj
  have b2 : (I : Int) ≤ (I : Int) + 1 := by omega
  have HCp := hidP (fun W h => l7Copy_any (some ⟨g, 0, none⟩) (I + 1) (I + 1) N ls W hn (hB.later h) (fun h => by cases h) hl)
  have HSp := hidP (fun W h => sDeskOk_any (some ⟨g, 0, none⟩) (I + 1) (I + 1) N ls W hn (hB.later h) hl)
  have HF := hidP (fun W h => l7Find_any (some ⟨g, 0, none⟩) (I + 1) (I + 1) N ls W hn (hB.later h) hl id)
  have HN := hidP hn
  have HRW := hidP (fun W h => hB.later (w' := W) h)
  rw [hr] at HSp
  rw [fxS_some hf] at HF
  have hl1 : (ls.take I).length = I := by rw [List.length_take]; have := HN.out; omega
  have hl2 : (ls.drop (I + 1)).length = (I + 1) - (I + 1) := by rw [List.length_drop, HN.out]
  have HLn := hidP (And.intro hl1 hl2)
  have hId : decide ((I : Int) < 0) = false := decide_eq_false (by omega)
  have hi0 : (0 : Int) ≤ (I : Int) := by omega
  have hi1 : (I : Int) ≤ ((I + 1) : Int) := by omega
  have hi2 : (I : Int) + 1 ≤ ((I + 1) : Int) := by omega
  have hi3 : (0 : Int) ≤ (I : Int) + 1 := by omega
  have wi : IntKind.i64.wrap ((I : Int) + 1) = (I : Int) + 1 := by rw [IntKind.wrap_i64]; omega
  clear hB hn hr hf hl1 hl2
  go_enter Try.func39, Try.ntmps39
  go_wp2_with fail
  obtain ⟨bk0_W1, bk1_W1⟩ := box2D w 26 (.slice (some ⟨g, 0, none⟩) (I + 1) (I + 1)) (.int .i64 N)
  have bkF_W1 : ∀ o, (w.alloc (.cells #[.slice (some ⟨g, 0, none⟩) (I + 1) (I + 1), .int .i64 N] 26)).frozen? ⟨w.heap.size, o, none⟩ = false := fun o => by simp [go_sem]
  have bkL_W1 : w.heap.size < (w.alloc (.cells #[.slice (some ⟨g, 0, none⟩) (I + 1) (I + 1), .int .i64 N] 26)).heap.size := by simp
  have ab_W1 := alloc_below w (.cells #[.slice (some ⟨g, 0, none⟩) (I + 1) (I + 1), .int .i64 N] 26)
  have as_W1 : Hid ((w.alloc (.cells #[.slice (some ⟨g, 0, none⟩) (I + 1) (I + 1), .int .i64 N] 26)).heap.size = w.heap.size + 1) := hidP (by simp)
  generalize w.alloc (.cells #[.slice (some ⟨g, 0, none⟩) (I + 1) (I + 1), .int .i64 N] 26) = W1 at *
  have acc_W1 := hidP (ab_W1)
  have sz_W1 : Hid (w.heap.size ≤ W1.heap.size) := hidP ab_W1.size
  clear ab_W1 
  obtain ⟨rs0_W2, rs1_W2⟩ := box2D W1 26 (.slice none 0 0) (.int .i64 0)
  have rsF_W2 : ∀ o, (W1.alloc (.cells #[.slice none 0 0, .int .i64 0] 26)).frozen? ⟨W1.heap.size, o, none⟩ = false := fun o => by simp [go_sem]
  have rsL_W2 : W1.heap.size < (W1.alloc (.cells #[.slice none 0 0, .int .i64 0] 26)).heap.size := by simp
  have ab_W2 := alloc_below W1 (.cells #[.slice none 0 0, .int .i64 0] 26)
  have as_W2 : Hid ((W1.alloc (.cells #[.slice none 0 0, .int .i64 0] 26)).heap.size = W1.heap.size + 1) := hidP (by simp)
  generalize W1.alloc (.cells #[.slice none 0 0, .int .i64 0] 26) = W2 at *
  have bk0_W2 := (ab_W2.cell bkL_W1).trans bk0_W1
  have bk1_W2 := (ab_W2.cell bkL_W1).trans bk1_W1
  have bkF_W2 : ∀ o, W2.frozen? ⟨w.heap.size, o, none⟩ = false := fun o => (ab_W2.frozen bkL_W1).trans (bkF_W1 o)
  have bkL_W2 : w.heap.size < W2.heap.size := Nat.lt_of_lt_of_le bkL_W1 ab_W2.size
  have acc_W2 := hidP (acc_W1.out.trans (ab_W2.mono acc_W1.out.size))
  have sz_W2 : Hid (W1.heap.size ≤ W2.heap.size) := hidP ab_W2.size
  clear ab_W2 bk0_W1 bk1_W1 bkF_W1 bkL_W1 acc_W1
  rw [as_W1.out] at rs0_W2 rs1_W2 rsL_W2
  have rsF_W2' : ∀ o, W2.frozen? ⟨w.heap.size + 1, o, none⟩ = false := fun o => by have := rsF_W2 o; rw [as_W1.out] at this; exact this
  clear rsF_W2
  have rsF_W2 := rsF_W2'
  clear rsF_W2'
  refine (HCp.out _ acc_W2.out).mono ?_
  rintro e w3 ⟨a3, c3, rfl, og3, hb3⟩
  have OG := hidP og3
  clear og3
  have bk0_w3 := (hb3.cell bkL_W2).trans bk0_W2
  have bk1_w3 := (hb3.cell bkL_W2).trans bk1_W2
  have bkF_w3 : ∀ o, w3.frozen? ⟨w.heap.size, o, none⟩ = false := fun o => (hb3.frozen bkL_W2).trans (bkF_W2 o)
  have bkL_w3 : w.heap.size < w3.heap.size := Nat.lt_of_lt_of_le bkL_W2 hb3.size
  have rs0_w3 := (hb3.cell rsL_W2).trans rs0_W2
  have rs1_w3 := (hb3.cell rsL_W2).trans rs1_W2
  have rsF_w3 : ∀ o, w3.frozen? ⟨w.heap.size + 1, o, none⟩ = false := fun o => (hb3.frozen rsL_W2).trans (rsF_W2 o)
  have rsL_w3 : w.heap.size + 1 < w3.heap.size := Nat.lt_of_lt_of_le rsL_W2 hb3.size
  have acc_w3 := hidP (acc_W2.out.trans (hb3.mono acc_W2.out.size))
  have sz_w3 : Hid (W2.heap.size ≤ w3.heap.size) := hidP hb3.size
  clear hb3 bk0_W2 bk1_W2 bkF_W2 bkL_W2 rs0_W2 rs1_W2 rsF_W2 rsL_W2 acc_W2
  have oL_w3 := hidP (OG.out)
  have lhL : Hid (∀ k, (Value.slice a3 (I + 1) c3).ownBlock = some k → W2.heap.size ≤ k ∧ k < w3.heap.size) := hidP (fun k hk => OwnG.lt oL_w3.out k hk)
  clear OG
  go_wp2_with fail
  obtain ⟨ou0_W4, ou1_W4⟩ := box2D w3 26 (.slice a3 (I + 1) c3) (.int .i64 N)
  have ouF_W4 : ∀ o, (w3.alloc (.cells #[.slice a3 (I + 1) c3, .int .i64 N] 26)).frozen? ⟨w3.heap.size, o, none⟩ = false := fun o => by simp [go_sem]
  have ouL_W4 : w3.heap.size < (w3.alloc (.cells #[.slice a3 (I + 1) c3, .int .i64 N] 26)).heap.size := by simp
  have ab_W4 := alloc_below w3 (.cells #[.slice a3 (I + 1) c3, .int .i64 N] 26)
  have as_W4 : Hid ((w3.alloc (.cells #[.slice a3 (I + 1) c3, .int .i64 N] 26)).heap.size = w3.heap.size + 1) := hidP (by simp)
  generalize w3.alloc (.cells #[.slice a3 (I + 1) c3, .int .i64 N] 26) = W4 at *
  have bk0_W4 := (ab_W4.cell bkL_w3).trans bk0_w3
  have bk1_W4 := (ab_W4.cell bkL_w3).trans bk1_w3
  have bkF_W4 : ∀ o, W4.frozen? ⟨w.heap.size, o, none⟩ = false := fun o => (ab_W4.frozen bkL_w3).trans (bkF_w3 o)
  have bkL_W4 : w.heap.size < W4.heap.size := Nat.lt_of_lt_of_le bkL_w3 ab_W4.size
  have rs0_W4 := (ab_W4.cell rsL_w3).trans rs0_w3
  have rs1_W4 := (ab_W4.cell rsL_w3).trans rs1_w3
  have rsF_W4 : ∀ o, W4.frozen? ⟨w.heap.size + 1, o, none⟩ = false := fun o => (ab_W4.frozen rsL_w3).trans (rsF_w3 o)
  have rsL_W4 : w.heap.size + 1 < W4.heap.size := Nat.lt_of_lt_of_le rsL_w3 ab_W4.size
  have oL_W4 := hidP (OwnG.later oL_w3.out ab_W4)
  have acc_W4 := hidP (acc_w3.out.trans (ab_W4.mono acc_w3.out.size))
  have sz_W4 : Hid (w3.heap.size ≤ W4.heap.size) := hidP ab_W4.size
  clear ab_W4 bk0_w3 bk1_w3 bkF_w3 bkL_w3 rs0_w3 rs1_w3 rsF_w3 rsL_w3 oL_w3 acc_w3
  refine (HF.out _ acc_W4.out).mono ?_
  rintro e w5 ⟨rfl, hb5⟩
  have bk0_w5 := (hb5.cell bkL_W4).trans bk0_W4
  have bk1_w5 := (hb5.cell bkL_W4).trans bk1_W4
  have bkF_w5 : ∀ o, w5.frozen? ⟨w.heap.size, o, none⟩ = false := fun o => (hb5.frozen bkL_W4).trans (bkF_W4 o)
  have bkL_w5 : w.heap.size < w5.heap.size := Nat.lt_of_lt_of_le bkL_W4 hb5.size
  have rs0_w5 := (hb5.cell rsL_W4).trans rs0_W4
  have rs1_w5 := (hb5.cell rsL_W4).trans rs1_W4
  have rsF_w5 : ∀ o, w5.frozen? ⟨w.heap.size + 1, o, none⟩ = false := fun o => (hb5.frozen rsL_W4).trans (rsF_W4 o)
  have rsL_w5 : w.heap.size + 1 < w5.heap.size := Nat.lt_of_lt_of_le rsL_W4 hb5.size
  have ou0_w5 := (hb5.cell ouL_W4).trans ou0_W4
  have ou1_w5 := (hb5.cell ouL_W4).trans ou1_W4
  have ouF_w5 : ∀ o, w5.frozen? ⟨w3.heap.size, o, none⟩ = false := fun o => (hb5.frozen ouL_W4).trans (ouF_W4 o)
  have ouL_w5 : w3.heap.size < w5.heap.size := Nat.lt_of_lt_of_le ouL_W4 hb5.size
  have oL_w5 := hidP (OwnG.later oL_W4.out hb5)
  have acc_w5 := hidP (acc_W4.out.trans (hb5.mono acc_W4.out.size))
  have sz_w5 : Hid (W4.heap.size ≤ w5.heap.size) := hidP hb5.size
  clear hb5 bk0_W4 bk1_W4 bkF_W4 bkL_W4 rs0_W4 rs1_W4 rsF_W4 rsL_W4 ou0_W4 ou1_W4 ouF_W4 ouL_W4 oL_W4 acc_W4
  go_wp2_with fail
  refine (HSp.out _ acc_w5.out).mono ?_
  rintro e w8 ⟨rfl, hb8⟩
  have bk0_w8 := (hb8.cell bkL_w5).trans bk0_w5
  have bk1_w8 := (hb8.cell bkL_w5).trans bk1_w5
  have bkF_w8 : ∀ o, w8.frozen? ⟨w.heap.size, o, none⟩ = false := fun o => (hb8.frozen bkL_w5).trans (bkF_w5 o)
  have bkL_w8 : w.heap.size < w8.heap.size := Nat.lt_of_lt_of_le bkL_w5 hb8.size
  have rs0_w8 := (hb8.cell rsL_w5).trans rs0_w5
  have rs1_w8 := (hb8.cell rsL_w5).trans rs1_w5
  have rsF_w8 : ∀ o, w8.frozen? ⟨w.heap.size + 1, o, none⟩ = false := fun o => (hb8.frozen rsL_w5).trans (rsF_w5 o)
  have rsL_w8 : w.heap.size + 1 < w8.heap.size := Nat.lt_of_lt_of_le rsL_w5 hb8.size
  have ou0_w8 := (hb8.cell ouL_w5).trans ou0_w5
  have ou1_w8 := (hb8.cell ouL_w5).trans ou1_w5
  have ouF_w8 : ∀ o, w8.frozen? ⟨w3.heap.size, o, none⟩ = false := fun o => (hb8.frozen ouL_w5).trans (ouF_w5 o)
  have ouL_w8 : w3.heap.size < w8.heap.size := Nat.lt_of_lt_of_le ouL_w5 hb8.size
  have oL_w8 := hidP (OwnG.later oL_w5.out hb8)
  have acc_w8 := hidP (acc_w5.out.trans (hb8.mono acc_w5.out.size))
  have sz_w8 : Hid (w5.heap.size ≤ w8.heap.size) := hidP hb8.size
  clear hb8 bk0_w5 bk1_w5 bkF_w5 bkL_w5 rs0_w5 rs1_w5 rsF_w5 rsL_w5 ou0_w5 ou1_w5 ouF_w5 ouL_w5 oL_w5 acc_w5
  go_wp2_with fail
  have hBW : w3.heap.size ≤ w8.heap.size := (by have := as_W1.out; have := sz_W1.out; have := as_W2.out; have := sz_W2.out; have := sz_w3.out; have := as_W4.out; have := sz_W4.out; have := sz_w5.out; have := sz_w8.out; omega)
  have l0 : w.heap.size < w3.heap.size := (by have := as_W1.out; have := sz_W1.out; have := as_W2.out; have := sz_W2.out; have := sz_w3.out; have := as_W4.out; have := sz_W4.out; have := sz_w5.out; have := sz_w8.out; omega)
  have HSx : Hid (∀ x, Below w3.heap.size w8 x → (x.cell? ⟨w.heap.size, 0, none⟩ = some (.slice (some ⟨g, 0, none⟩) (I + 1) (I + 1)) ∧ Below w3.heap.size w8 x)) := hidP fun x h =>
    ⟨(h.cell l0).trans bk0_w8, h⟩
  refine wp_region_held_drew (S := (fun x => x.cell? ⟨w.heap.size, 0, none⟩ = some (.slice (some ⟨g, 0, none⟩) (I + 1) (I + 1)) ∧ Below w3.heap.size w8 x)) (by kernel_rfl) ?_ (fun hHeld => ?_)
  · try dsimp only
    exact HSx.out _ (Below.refl _ _).drew
  refine wpAnyH_take (i := 1) (oi := ⟨some 22, _, _, _, _, _⟩) (v := ?_) rfl (by kernel_rfl) (by kernel_rfl) (by kernel_rfl) (fun _ _ _ h => h) (Or.inl ⟨by rfl, ?_⟩) (by assumption) ?_
  rotate_left
  · intro w hSw
    try dsimp only at hSw
    go_simp
    try with_reducible rfl
  simp only [Act.put, List.setIfInBounds_toArray, List.set_cons_zero, List.set_cons_succ]
  refine wpAnyH_take (i := 2) (oi := ⟨some 23, _, _, _, _, _⟩) (v := ?_) rfl (by kernel_rfl) (by kernel_rfl) (by kernel_rfl) (fun _ _ _ h => h) (Or.inl ⟨by rfl, ?_⟩) (by assumption) ?_
  rotate_left
  · intro w hSw
    try dsimp only at hSw
    go_simp
    try with_reducible rfl
  simp only [Act.put, List.setIfInBounds_toArray, List.set_cons_zero, List.set_cons_succ]
  refine wpAnyH_take (i := 3) (oi := ⟨some 24, _, _, _, _, _⟩) (v := ?_) rfl (by kernel_rfl) (by kernel_rfl) (by kernel_rfl) (fun _ _ _ h => h) (Or.inl ⟨by rfl, ?_⟩) (by assumption) ?_
  rotate_left
  · intro w hSw
    try dsimp only at hSw
    go_simp
    try with_reducible rfl
  simp only [Act.put, List.setIfInBounds_toArray, List.set_cons_zero, List.set_cons_succ]
  refine wpAnyH_take (i := 4) (oi := ⟨some 25, _, _, _, _, _⟩) (v := ?_) rfl (by kernel_rfl) (by kernel_rfl) (by kernel_rfl) (fun _ _ _ h => h) (Or.inl ⟨by rfl, ?_⟩) (by assumption) ?_
  rotate_left
  · intro w hSw
    try dsimp only at hSw
    go_simp
    try with_reducible rfl
  simp only [Act.put, List.setIfInBounds_toArray, List.set_cons_zero, List.set_cons_succ]
  refine wpAnyH_take (i := 6) (oi := ⟨some 27, _, _, _, _, _⟩) (v := ?_) rfl (by kernel_rfl) (by kernel_rfl) (by kernel_rfl) (fun _ _ _ h => h) (Or.inl ⟨by rfl, ?_⟩) (by assumption) ?_
  rotate_left
  · intro w hSw
    try dsimp only at hSw
    go_simp
    try with_reducible rfl
  simp only [Act.put, List.setIfInBounds_toArray, List.set_cons_zero, List.set_cons_succ]
  refine wpAnyH_take (i := 7) (oi := ⟨some 28, _, _, _, _, _⟩) (v := ?_) rfl (by kernel_rfl) (by kernel_rfl) (by kernel_rfl) (fun _ _ _ h => h) (Or.inl ⟨by rfl, ?_⟩) (by assumption) ?_
  rotate_left
  · intro w hSw
    try dsimp only at hSw
    go_simp
    try with_reducible rfl
  simp only [Act.put, List.setIfInBounds_toArray, List.set_cons_zero, List.set_cons_succ]
  refine wpAnyH_take (i := 8) (oi := ⟨some 29, _, _, _, _, _⟩) (v := ?_) rfl (by kernel_rfl) (by kernel_rfl) (by kernel_rfl) (fun _ _ _ h => h) (Or.inl ⟨by rfl, ?_⟩) (by assumption) ?_
  rotate_left
  · intro w hSw
    try dsimp only at hSw
    go_simp
    try with_reducible rfl
  simp only [Act.put, List.setIfInBounds_toArray, List.set_cons_zero, List.set_cons_succ]
  refine wpAnyH_take (i := 9) (oi := ⟨some 30, _, _, _, _, _⟩) (v := ?_) rfl (by kernel_rfl) (by kernel_rfl) (by kernel_rfl) (fun _ _ _ h => h) (Or.inl ⟨by rfl, ?_⟩) (by assumption) ?_
  rotate_left
  · intro w hSw
    try dsimp only at hSw
    go_simp
    try with_reducible rfl
  simp only [Act.put, List.setIfInBounds_toArray, List.set_cons_zero, List.set_cons_succ]
  refine wpAnyH_take (i := 10) (oi := ⟨some 31, _, _, _, _, _⟩) (v := ?_) rfl (by kernel_rfl) (by kernel_rfl) (by kernel_rfl) (fun _ _ _ h => h) (Or.inl ⟨by rfl, ?_⟩) (by assumption) ?_
  rotate_left
  · intro w hSw
    try dsimp only at hSw
    go_simp
    try with_reducible rfl
  simp only [Act.put, List.setIfInBounds_toArray, List.set_cons_zero, List.set_cons_succ]
  refine wpAnyH_ready (rs := [0]) (by kernel_rfl) (by simp) ?_
  refine AllReadyH.cons rfl (fun K hK => ?_) AllReadyH.nil
  go_simp
  have z1 := OwnG.drewG (own_zeroG KSs w8 w8.heap.size 39 (Nat.le_refl _))
  have zb1 := (alloc_below w8 (.cells #[] 39)).drew
  have zs1 : w8.heap.size + 1 ≤ (w8.alloc (.cells #[] 39)).drew.heap.size := by show w8.heap.size + 1 ≤ (w8.alloc (.cells #[] 39)).heap.size; simp
  generalize (w8.alloc (.cells #[] 39)).drew = v1 at *
  refine hK.out _ _ ?_ (fun hHeld => ?_)
  · try dsimp only
    exact HSx.out _ (zb1.mono hBW)
  clear hK K
  refine wpAnyH_ready (rs := [5]) (by kernel_rfl) (by simp) ?_
  refine AllReadyH.cons rfl (fun K hK => ?_) AllReadyH.nil
  have rw1 : Below w.heap.size w v1 := acc_w8.out.trans (zb1.mono acc_w8.out.size)
  refine step_appG Try.tySs _ rfl (.tmp 21) (.tmp 25) 24 rfl w8.heap.size (some ⟨w8.heap.size, 0, none⟩) 0 0 I [] (ls.take I) (.slice (some ⟨g, 0, none⟩) I (I + 1)) rfl rfl HLn.out.1.symm z1 rfl (src_rowG Try.tySs.1 I (I + 1) (by show 0 < 4; omega) HLn.out.1.symm (RowG.takeG (HRW.out _ rw1) I) (fun e => by cases e)) (by omega) (by omega) ?_
  intro a2 c2 v2 ho2 hg2 ht2
  rw [Nat.zero_add, List.nil_append] at ho2
  have zs2 := hg2.size
  have zb2 := Below.grown zb1 hg2 zb1.size (fun j hj => by rw [ob_some, Option.some.injEq] at hj; omega)
  rw [Nat.zero_add]
  refine hK.out _ _ ?_ (fun hHeld => ?_)
  · try dsimp only
    exact HSx.out _ (zb2.mono hBW)
  clear hK K
  refine wpAnyH_ready (rs := [11]) (by kernel_rfl) (by simp) ?_
  refine AllReadyH.cons rfl (fun K hK => ?_) AllReadyH.nil
  have rw2 : Below w.heap.size w v2 := acc_w8.out.trans (zb2.mono acc_w8.out.size)
  refine step_appG Try.tySs _ rfl (.tmp 26) (.tmp 31) 24 rfl w8.heap.size a2 I c2 ((I + 1) - (I + 1)) (ls.take I) (ls.drop (I + 1)) (.slice (some ⟨g, 0, none⟩) ((I + 1) - (I + 1)) 0) rfl HLn.out.1.symm HLn.out.2.symm ho2 (by rw [Nat.sub_self]; rfl) (src_rowG Try.tySs.1 _ _ (by show 0 < 4; omega) HLn.out.2.symm (fun j hj => by rw [HLn.out.2] at hj; omega) (fun e => by cases e)) (by omega) (by omega) ?_
  intro a5 c5 v3 ho3 hg3 ht3
  have lo2 := fun j hj => (OwnG.lt ho2 j hj).1
  have zb3 := Below.grown zb2 hg3 zb2.size (fun j hj => by have := lo2 j hj; omega)
  have heM : I + ((I + 1) - (I + 1)) = I := by omega
  rw [heM, erase_eqS] at ho3
  rw [heM]
  refine hK.out _ _ ?_ (fun hHeld => ?_)
  · try dsimp only
    exact HSx.out _ (zb3.mono hBW)
  clear hK K
  refine wpAnyH_take (i := 12) (oi := ⟨some 33, _, _, _, _, _⟩) (v := ?_) rfl (by kernel_rfl) (by kernel_rfl) (by kernel_rfl) (fun _ _ _ h => h) (Or.inl ⟨by rfl, ?_⟩) (by assumption) ?_
  rotate_left
  · intro w hSw
    try dsimp only at hSw
    go_simp
    try with_reducible rfl
  simp only [Act.put, List.setIfInBounds_toArray]
  have t0 := (zb3.cell ouL_w8).trans ou0_w8
  have t1 := (zb3.cell ouL_w8).trans ou1_w8
  have tF : ∀ o, v3.frozen? ⟨w3.heap.size, o, none⟩ = false := fun o => (zb3.frozen ouL_w8).trans (ouF_w8 o)
  refine wpAnyH_ready (rs := [13]) (by kernel_rfl) (by simp) ?_
  refine AllReadyH.cons rfl (fun K hK => ?_) AllReadyH.nil
  go_simp
  refine hK.out _ _ ?_ (fun hHeld => ?_)
  · try dsimp only
    exact HSx.out _ ((zb3.mono hBW).setCell (Nat.le_refl _) _)
  clear hK K
  have HE := hidP (hHeld.2)
  refine wpAnyH_done (by kernel_rfl) ?_ _
  clear hHeld
  clear HE HSx t0 t1 tF
  have HO3 := hidP ho3
  clear ho3 hg3 ht3 ho2 hg2 ht2 z1 lo2
  have zb3' := zb3
  clear zb3 zb2 zb1
  have bk0_v3 := (zb3'.cell bkL_w8).trans bk0_w8
  have bk1_v3 := (zb3'.cell bkL_w8).trans bk1_w8
  have bkF_v3 : ∀ o, v3.frozen? ⟨w.heap.size, o, none⟩ = false := fun o => (zb3'.frozen bkL_w8).trans (bkF_w8 o)
  have bkL_v3 : w.heap.size < v3.heap.size := Nat.lt_of_lt_of_le bkL_w8 zb3'.size
  have rs0_v3 := (zb3'.cell rsL_w8).trans rs0_w8
  have rs1_v3 := (zb3'.cell rsL_w8).trans rs1_w8
  have rsF_v3 : ∀ o, v3.frozen? ⟨w.heap.size + 1, o, none⟩ = false := fun o => (zb3'.frozen rsL_w8).trans (rsF_w8 o)
  have rsL_v3 : w.heap.size + 1 < v3.heap.size := Nat.lt_of_lt_of_le rsL_w8 zb3'.size
  have ou0_v3 := (zb3'.cell ouL_w8).trans ou0_w8
  have ou1_v3 := (zb3'.cell ouL_w8).trans ou1_w8
  have ouF_v3 : ∀ o, v3.frozen? ⟨w3.heap.size, o, none⟩ = false := fun o => (zb3'.frozen ouL_w8).trans (ouF_w8 o)
  have ouL_v3 : w3.heap.size < v3.heap.size := Nat.lt_of_lt_of_le ouL_w8 zb3'.size
  have oL_v3 := hidP (OwnG.later oL_w8.out zb3')
  have acc_v3 := hidP (acc_w8.out.trans (zb3'.mono acc_w8.out.size))
  have sz_v3 : Hid (w8.heap.size ≤ v3.heap.size) := hidP zb3'.size
  clear zb3' bk0_w8 bk1_w8 bkF_w8 bkL_w8 rs0_w8 rs1_w8 rsF_w8 rsL_w8 ou0_w8 ou1_w8 ouF_w8 ouL_w8 oL_w8 acc_w8
  have oP_v3 := hidP (HO3.out)
  have lhP : Hid (∀ k, (Value.slice a5 I c5).ownBlock = some k → w8.heap.size ≤ k ∧ k < v3.heap.size) := hidP (fun k hk => OwnG.lt oP_v3.out k hk)
  clear HO3 oL_v3
  have ou0_V9 : (v3.setCell ⟨w3.heap.size, 0, none⟩ (.slice a5 I c5)).cell? ⟨w3.heap.size, 0, none⟩ = some (.slice a5 I c5) := by simp [go_sem, ou0_v3]
  have ou1_V9 : (v3.setCell ⟨w3.heap.size, 0, none⟩ (.slice a5 I c5)).cell? ⟨w3.heap.size, 1, none⟩ = some (.int .i64 N) := by simp [go_sem, ou1_v3]
  have bk0_V9 : (v3.setCell ⟨w3.heap.size, 0, none⟩ (.slice a5 I c5)).cell? ⟨w.heap.size, 0, none⟩ = some (.slice (some ⟨g, 0, none⟩) (I + 1) (I + 1)) := cell_set1 (bk0_v3) (by have := as_W1.out; have := sz_W1.out; have := as_W2.out; have := sz_W2.out; have := sz_w3.out; have := as_W4.out; have := sz_W4.out; have := sz_w5.out; have := sz_w8.out; have := sz_v3.out; omega)
  have bk1_V9 : (v3.setCell ⟨w3.heap.size, 0, none⟩ (.slice a5 I c5)).cell? ⟨w.heap.size, 1, none⟩ = some (.int .i64 N) := cell_set1 (bk1_v3) (by have := as_W1.out; have := sz_W1.out; have := as_W2.out; have := sz_W2.out; have := sz_w3.out; have := as_W4.out; have := sz_W4.out; have := sz_w5.out; have := sz_w8.out; have := sz_v3.out; omega)
  have bkF_V9 : ∀ o, (v3.setCell ⟨w3.heap.size, 0, none⟩ (.slice a5 I c5)).frozen? ⟨w.heap.size, o, none⟩ = false := fun o => frz_set1 ((bkF_v3 o))
  have bkL_V9 : w.heap.size < (v3.setCell ⟨w3.heap.size, 0, none⟩ (.slice a5 I c5)).heap.size := by simpa using bkL_v3
  have rs0_V9 : (v3.setCell ⟨w3.heap.size, 0, none⟩ (.slice a5 I c5)).cell? ⟨w.heap.size + 1, 0, none⟩ = some (.slice none 0 0) := cell_set1 (rs0_v3) (by have := as_W1.out; have := sz_W1.out; have := as_W2.out; have := sz_W2.out; have := sz_w3.out; have := as_W4.out; have := sz_W4.out; have := sz_w5.out; have := sz_w8.out; have := sz_v3.out; omega)
  have rs1_V9 : (v3.setCell ⟨w3.heap.size, 0, none⟩ (.slice a5 I c5)).cell? ⟨w.heap.size + 1, 1, none⟩ = some (.int .i64 0) := cell_set1 (rs1_v3) (by have := as_W1.out; have := sz_W1.out; have := as_W2.out; have := sz_W2.out; have := sz_w3.out; have := as_W4.out; have := sz_W4.out; have := sz_w5.out; have := sz_w8.out; have := sz_v3.out; omega)
  have rsF_V9 : ∀ o, (v3.setCell ⟨w3.heap.size, 0, none⟩ (.slice a5 I c5)).frozen? ⟨w.heap.size + 1, o, none⟩ = false := fun o => frz_set1 ((rsF_v3 o))
  have rsL_V9 : w.heap.size + 1 < (v3.setCell ⟨w3.heap.size, 0, none⟩ (.slice a5 I c5)).heap.size := by simpa using rsL_v3
  have ouF_V9 : ∀ o, (v3.setCell ⟨w3.heap.size, 0, none⟩ (.slice a5 I c5)).frozen? ⟨w3.heap.size, o, none⟩ = false := fun o => frz_set1 ((ouF_v3 o))
  have ouL_V9 : w3.heap.size < (v3.setCell ⟨w3.heap.size, 0, none⟩ (.slice a5 I c5)).heap.size := by simpa using ouL_v3
  have oP_V9 : Hid (OwnG KSs 39 (v3.setCell ⟨w3.heap.size, 0, none⟩ (.slice a5 I c5)) (w8.heap.size) (.slice a5 I c5) (ls.eraseIdx I)) := hidP (OwnG.grown (oP_v3.out) (grown_cellG _ _ _ _) (OwnG.ne_of oP_v3.out (by have := as_W1.out; have := sz_W1.out; have := as_W2.out; have := sz_W2.out; have := sz_w3.out; have := as_W4.out; have := sz_W4.out; have := sz_w5.out; have := sz_w8.out; have := sz_v3.out; omega)))
  have acc_V9 : Hid (Below w.heap.size w (v3.setCell ⟨w3.heap.size, 0, none⟩ (.slice a5 I c5))) := hidP (Below.setCell (acc_v3.out) (by have := as_W1.out; have := sz_W1.out; have := as_W2.out; have := sz_W2.out; have := sz_w3.out; have := as_W4.out; have := sz_W4.out; have := sz_w5.out; have := sz_w8.out; have := sz_v3.out; try dsimp only; omega) _)
  have sz_V9 : Hid ((v3.setCell ⟨w3.heap.size, 0, none⟩ (.slice a5 I c5)).heap.size = v3.heap.size) := hidP (by simp)
  generalize v3.setCell ⟨w3.heap.size, 0, none⟩ (.slice a5 I c5) = V9 at *
  clear ou0_v3 ou1_v3 bk0_v3 bk1_v3 bkF_v3 bkL_v3 rs0_v3 rs1_v3 rsF_v3 rsL_v3 ouF_v3 ouL_v3 oP_v3 acc_v3
  go_wp2_with fail
  refine bodyPost_ret (v := .tuple #[.agg #[.slice a5 I c5, .int .i64 N], .bool true]) (by simp [results, Try.results39, go_sem, rs0_V9, rs1_V9]) rfl ⟨_, _, rfl, ?_, ?_⟩
  · refine OwnG.mono (B := w8.heap.size) ?_ (by have := as_W1.out; have := sz_W1.out; have := as_W2.out; have := sz_W2.out; have := sz_w3.out; have := as_W4.out; have := sz_W4.out; have := sz_w5.out; have := sz_w8.out; have := sz_v3.out; have := sz_V9.out; omega)
    iterate 2 (with_reducible refine OwnG.grown ?_ (grown_cellG _ _ _ _) ?_; rotate_left; (focus (first | exact OwnG.ne_of oP_V9.out (by have := as_W1.out; have := sz_W1.out; have := as_W2.out; have := sz_W2.out; have := sz_w3.out; have := as_W4.out; have := sz_W4.out; have := sz_w5.out; have := sz_w8.out; have := sz_v3.out; have := sz_V9.out; omega))))
    exact oP_V9.out
  · repeat (with_reducible refine Below.setCell ?_ ?_ _; rotate_left; (focus (first | (simp; done) | (simp; omega) | (dsimp only; have := as_W1.out; have := sz_W1.out; have := as_W2.out; have := sz_W2.out; have := sz_w3.out; have := as_W4.out; have := sz_W4.out; have := sz_w5.out; have := sz_w8.out; have := sz_v3.out; have := sz_V9.out; omega))))
    exact acc_V9.out

set_option maxRecDepth 10000 in
set_option maxHeartbeats 4000000 in
theorem sCl_yes1 (g n cc : Nat) (N : Int) (ls : List Ss) (w : World) (hn : n = ls.length) (hB : RowG KSs w (some ⟨g, 0, none⟩) ls) (hl : n ≤ 1048576) (id : Int) (hr : dkB ls N = true) (I : Nat) (hI : I < n) (hf : findS id ls = some I) (hcc : n ≤ cc) (hc9 : cc ≤ 9223372036854775807) (hcj : ¬ cc = I + 1) :
    Calls Try.prog 39 #[.agg #[.slice (some ⟨g, 0, none⟩) n cc, .int .i64 N], .int .i64 id] w fun e w' => ∃ a' c', e = .returned (.tuple #[.agg #[.slice a' (n - 1) c', .int .i64 N], .bool true]) ∧ OwnG KSs 39 w' w.heap.size (.slice a' (n - 1) c') (ls.eraseIdx I) ∧ Below w.heap.size w w' := by
  have HCp := hidP (fun W h => l7Copy_any (some ⟨g, 0, none⟩) n cc N ls W hn (hB.later h) (fun h => by cases h) hl)
  have HSp := hidP (fun W h => sDeskOk_any (some ⟨g, 0, none⟩) n cc N ls W hn (hB.later h) hl)
  have HF := hidP (fun W h => l7Find_any (some ⟨g, 0, none⟩) n cc N ls W hn (hB.later h) hl id)
  have HN := hidP hn
  have HRW := hidP (fun W h => hB.later (w' := W) h)
  rw [hr] at HSp
  rw [fxS_some hf] at HF
  have hl1 : (ls.take I).length = I := by rw [List.length_take]; have := HN.out; omega
  have hl2 : (ls.drop (I + 1)).length = n - (I + 1) := by rw [List.length_drop, HN.out]
  have HLn := hidP (And.intro hl1 hl2)
  have hId : decide ((I : Int) < 0) = false := decide_eq_false (by omega)
  have hi0 : (0 : Int) ≤ (I : Int) := by omega
  have hi1 : (I : Int) ≤ (n : Int) := by omega
  have hi2 : (I : Int) + 1 ≤ (n : Int) := by omega
  have hi4 : (I : Int) ≤ (cc : Int) := by omega
  have hi5 : (n : Int) ≤ (cc : Int) := by omega
  have hi6 : cc ≠ I + 1 := hcj
  have hi3 : (0 : Int) ≤ (I : Int) + 1 := by omega
  have wi : IntKind.i64.wrap ((I : Int) + 1) = (I : Int) + 1 := by rw [IntKind.wrap_i64]; omega
  clear hB hn hr hf hl1 hl2
  go_enter Try.func39, Try.ntmps39
  go_wp2_with fail
  obtain ⟨bk0_W1, bk1_W1⟩ := box2D w 26 (.slice (some ⟨g, 0, none⟩) n cc) (.int .i64 N)
  have bkF_W1 : ∀ o, (w.alloc (.cells #[.slice (some ⟨g, 0, none⟩) n cc, .int .i64 N] 26)).frozen? ⟨w.heap.size, o, none⟩ = false := fun o => by simp [go_sem]
  have bkL_W1 : w.heap.size < (w.alloc (.cells #[.slice (some ⟨g, 0, none⟩) n cc, .int .i64 N] 26)).heap.size := by simp
  have ab_W1 := alloc_below w (.cells #[.slice (some ⟨g, 0, none⟩) n cc, .int .i64 N] 26)
  have as_W1 : Hid ((w.alloc (.cells #[.slice (some ⟨g, 0, none⟩) n cc, .int .i64 N] 26)).heap.size = w.heap.size + 1) := hidP (by simp)
  generalize w.alloc (.cells #[.slice (some ⟨g, 0, none⟩) n cc, .int .i64 N] 26) = W1 at *
  have acc_W1 := hidP (ab_W1)
  have sz_W1 : Hid (w.heap.size ≤ W1.heap.size) := hidP ab_W1.size
  clear ab_W1 
  obtain ⟨rs0_W2, rs1_W2⟩ := box2D W1 26 (.slice none 0 0) (.int .i64 0)
  have rsF_W2 : ∀ o, (W1.alloc (.cells #[.slice none 0 0, .int .i64 0] 26)).frozen? ⟨W1.heap.size, o, none⟩ = false := fun o => by simp [go_sem]
  have rsL_W2 : W1.heap.size < (W1.alloc (.cells #[.slice none 0 0, .int .i64 0] 26)).heap.size := by simp
  have ab_W2 := alloc_below W1 (.cells #[.slice none 0 0, .int .i64 0] 26)
  have as_W2 : Hid ((W1.alloc (.cells #[.slice none 0 0, .int .i64 0] 26)).heap.size = W1.heap.size + 1) := hidP (by simp)
  generalize W1.alloc (.cells #[.slice none 0 0, .int .i64 0] 26) = W2 at *
  have bk0_W2 := (ab_W2.cell bkL_W1).trans bk0_W1
  have bk1_W2 := (ab_W2.cell bkL_W1).trans bk1_W1
  have bkF_W2 : ∀ o, W2.frozen? ⟨w.heap.size, o, none⟩ = false := fun o => (ab_W2.frozen bkL_W1).trans (bkF_W1 o)
  have bkL_W2 : w.heap.size < W2.heap.size := Nat.lt_of_lt_of_le bkL_W1 ab_W2.size
  have acc_W2 := hidP (acc_W1.out.trans (ab_W2.mono acc_W1.out.size))
  have sz_W2 : Hid (W1.heap.size ≤ W2.heap.size) := hidP ab_W2.size
  clear ab_W2 bk0_W1 bk1_W1 bkF_W1 bkL_W1 acc_W1
  rw [as_W1.out] at rs0_W2 rs1_W2 rsL_W2
  have rsF_W2' : ∀ o, W2.frozen? ⟨w.heap.size + 1, o, none⟩ = false := fun o => by have := rsF_W2 o; rw [as_W1.out] at this; exact this
  clear rsF_W2
  have rsF_W2 := rsF_W2'
  clear rsF_W2'
  refine (HCp.out _ acc_W2.out).mono ?_
  rintro e w3 ⟨a3, c3, rfl, og3, hb3⟩
  have OG := hidP og3
  clear og3
  have bk0_w3 := (hb3.cell bkL_W2).trans bk0_W2
  have bk1_w3 := (hb3.cell bkL_W2).trans bk1_W2
  have bkF_w3 : ∀ o, w3.frozen? ⟨w.heap.size, o, none⟩ = false := fun o => (hb3.frozen bkL_W2).trans (bkF_W2 o)
  have bkL_w3 : w.heap.size < w3.heap.size := Nat.lt_of_lt_of_le bkL_W2 hb3.size
  have rs0_w3 := (hb3.cell rsL_W2).trans rs0_W2
  have rs1_w3 := (hb3.cell rsL_W2).trans rs1_W2
  have rsF_w3 : ∀ o, w3.frozen? ⟨w.heap.size + 1, o, none⟩ = false := fun o => (hb3.frozen rsL_W2).trans (rsF_W2 o)
  have rsL_w3 : w.heap.size + 1 < w3.heap.size := Nat.lt_of_lt_of_le rsL_W2 hb3.size
  have acc_w3 := hidP (acc_W2.out.trans (hb3.mono acc_W2.out.size))
  have sz_w3 : Hid (W2.heap.size ≤ w3.heap.size) := hidP hb3.size
  clear hb3 bk0_W2 bk1_W2 bkF_W2 bkL_W2 rs0_W2 rs1_W2 rsF_W2 rsL_W2 acc_W2
  have oL_w3 := hidP (OG.out)
  have lhL : Hid (∀ k, (Value.slice a3 n c3).ownBlock = some k → W2.heap.size ≤ k ∧ k < w3.heap.size) := hidP (fun k hk => OwnG.lt oL_w3.out k hk)
  clear OG
  go_wp2_with fail
  obtain ⟨ou0_W4, ou1_W4⟩ := box2D w3 26 (.slice a3 n c3) (.int .i64 N)
  have ouF_W4 : ∀ o, (w3.alloc (.cells #[.slice a3 n c3, .int .i64 N] 26)).frozen? ⟨w3.heap.size, o, none⟩ = false := fun o => by simp [go_sem]
  have ouL_W4 : w3.heap.size < (w3.alloc (.cells #[.slice a3 n c3, .int .i64 N] 26)).heap.size := by simp
  have ab_W4 := alloc_below w3 (.cells #[.slice a3 n c3, .int .i64 N] 26)
  have as_W4 : Hid ((w3.alloc (.cells #[.slice a3 n c3, .int .i64 N] 26)).heap.size = w3.heap.size + 1) := hidP (by simp)
  generalize w3.alloc (.cells #[.slice a3 n c3, .int .i64 N] 26) = W4 at *
  have bk0_W4 := (ab_W4.cell bkL_w3).trans bk0_w3
  have bk1_W4 := (ab_W4.cell bkL_w3).trans bk1_w3
  have bkF_W4 : ∀ o, W4.frozen? ⟨w.heap.size, o, none⟩ = false := fun o => (ab_W4.frozen bkL_w3).trans (bkF_w3 o)
  have bkL_W4 : w.heap.size < W4.heap.size := Nat.lt_of_lt_of_le bkL_w3 ab_W4.size
  have rs0_W4 := (ab_W4.cell rsL_w3).trans rs0_w3
  have rs1_W4 := (ab_W4.cell rsL_w3).trans rs1_w3
  have rsF_W4 : ∀ o, W4.frozen? ⟨w.heap.size + 1, o, none⟩ = false := fun o => (ab_W4.frozen rsL_w3).trans (rsF_w3 o)
  have rsL_W4 : w.heap.size + 1 < W4.heap.size := Nat.lt_of_lt_of_le rsL_w3 ab_W4.size
  have oL_W4 := hidP (OwnG.later oL_w3.out ab_W4)
  have acc_W4 := hidP (acc_w3.out.trans (ab_W4.mono acc_w3.out.size))
  have sz_W4 : Hid (w3.heap.size ≤ W4.heap.size) := hidP ab_W4.size
  clear ab_W4 bk0_w3 bk1_w3 bkF_w3 bkL_w3 rs0_w3 rs1_w3 rsF_w3 rsL_w3 oL_w3 acc_w3
  refine (HF.out _ acc_W4.out).mono ?_
  rintro e w5 ⟨rfl, hb5⟩
  have bk0_w5 := (hb5.cell bkL_W4).trans bk0_W4
  have bk1_w5 := (hb5.cell bkL_W4).trans bk1_W4
  have bkF_w5 : ∀ o, w5.frozen? ⟨w.heap.size, o, none⟩ = false := fun o => (hb5.frozen bkL_W4).trans (bkF_W4 o)
  have bkL_w5 : w.heap.size < w5.heap.size := Nat.lt_of_lt_of_le bkL_W4 hb5.size
  have rs0_w5 := (hb5.cell rsL_W4).trans rs0_W4
  have rs1_w5 := (hb5.cell rsL_W4).trans rs1_W4
  have rsF_w5 : ∀ o, w5.frozen? ⟨w.heap.size + 1, o, none⟩ = false := fun o => (hb5.frozen rsL_W4).trans (rsF_W4 o)
  have rsL_w5 : w.heap.size + 1 < w5.heap.size := Nat.lt_of_lt_of_le rsL_W4 hb5.size
  have ou0_w5 := (hb5.cell ouL_W4).trans ou0_W4
  have ou1_w5 := (hb5.cell ouL_W4).trans ou1_W4
  have ouF_w5 : ∀ o, w5.frozen? ⟨w3.heap.size, o, none⟩ = false := fun o => (hb5.frozen ouL_W4).trans (ouF_W4 o)
  have ouL_w5 : w3.heap.size < w5.heap.size := Nat.lt_of_lt_of_le ouL_W4 hb5.size
  have oL_w5 := hidP (OwnG.later oL_W4.out hb5)
  have acc_w5 := hidP (acc_W4.out.trans (hb5.mono acc_W4.out.size))
  have sz_w5 : Hid (W4.heap.size ≤ w5.heap.size) := hidP hb5.size
  clear hb5 bk0_W4 bk1_W4 bkF_W4 bkL_W4 rs0_W4 rs1_W4 rsF_W4 rsL_W4 ou0_W4 ou1_W4 ouF_W4 ouL_W4 oL_W4 acc_W4
  go_wp2_with fail
  refine (HSp.out _ acc_w5.out).mono ?_
  rintro e w8 ⟨rfl, hb8⟩
  have bk0_w8 := (hb8.cell bkL_w5).trans bk0_w5
  have bk1_w8 := (hb8.cell bkL_w5).trans bk1_w5
  have bkF_w8 : ∀ o, w8.frozen? ⟨w.heap.size, o, none⟩ = false := fun o => (hb8.frozen bkL_w5).trans (bkF_w5 o)
  have bkL_w8 : w.heap.size < w8.heap.size := Nat.lt_of_lt_of_le bkL_w5 hb8.size
  have rs0_w8 := (hb8.cell rsL_w5).trans rs0_w5
  have rs1_w8 := (hb8.cell rsL_w5).trans rs1_w5
  have rsF_w8 : ∀ o, w8.frozen? ⟨w.heap.size + 1, o, none⟩ = false := fun o => (hb8.frozen rsL_w5).trans (rsF_w5 o)
  have rsL_w8 : w.heap.size + 1 < w8.heap.size := Nat.lt_of_lt_of_le rsL_w5 hb8.size
  have ou0_w8 := (hb8.cell ouL_w5).trans ou0_w5
  have ou1_w8 := (hb8.cell ouL_w5).trans ou1_w5
  have ouF_w8 : ∀ o, w8.frozen? ⟨w3.heap.size, o, none⟩ = false := fun o => (hb8.frozen ouL_w5).trans (ouF_w5 o)
  have ouL_w8 : w3.heap.size < w8.heap.size := Nat.lt_of_lt_of_le ouL_w5 hb8.size
  have oL_w8 := hidP (OwnG.later oL_w5.out hb8)
  have acc_w8 := hidP (acc_w5.out.trans (hb8.mono acc_w5.out.size))
  have sz_w8 : Hid (w5.heap.size ≤ w8.heap.size) := hidP hb8.size
  clear hb8 bk0_w5 bk1_w5 bkF_w5 bkL_w5 rs0_w5 rs1_w5 rsF_w5 rsL_w5 ou0_w5 ou1_w5 ouF_w5 ouL_w5 oL_w5 acc_w5
  go_wp2_with fail
  have hBW : w3.heap.size ≤ w8.heap.size := (by have := as_W1.out; have := sz_W1.out; have := as_W2.out; have := sz_W2.out; have := sz_w3.out; have := as_W4.out; have := sz_W4.out; have := sz_w5.out; have := sz_w8.out; omega)
  have l0 : w.heap.size < w3.heap.size := (by have := as_W1.out; have := sz_W1.out; have := as_W2.out; have := sz_W2.out; have := sz_w3.out; have := as_W4.out; have := sz_W4.out; have := sz_w5.out; have := sz_w8.out; omega)
  have HSx : Hid (∀ x, Below w3.heap.size w8 x → (x.cell? ⟨w.heap.size, 0, none⟩ = some (.slice (some ⟨g, 0, none⟩) n cc) ∧ Below w3.heap.size w8 x)) := hidP fun x h =>
    ⟨(h.cell l0).trans bk0_w8, h⟩
  refine wp_region_held_drew (S := (fun x => x.cell? ⟨w.heap.size, 0, none⟩ = some (.slice (some ⟨g, 0, none⟩) n cc) ∧ Below w3.heap.size w8 x)) (by kernel_rfl) ?_ (fun hHeld => ?_)
  · try dsimp only
    exact HSx.out _ (Below.refl _ _).drew
  refine wpAnyH_take (i := 1) (oi := ⟨some 22, _, _, _, _, _⟩) (v := ?_) rfl (by kernel_rfl) (by kernel_rfl) (by kernel_rfl) (fun _ _ _ h => h) (Or.inl ⟨by rfl, ?_⟩) (by assumption) ?_
  rotate_left
  · intro w hSw
    try dsimp only at hSw
    go_simp
    try with_reducible rfl
  simp only [Act.put, List.setIfInBounds_toArray, List.set_cons_zero, List.set_cons_succ]
  refine wpAnyH_take (i := 2) (oi := ⟨some 23, _, _, _, _, _⟩) (v := ?_) rfl (by kernel_rfl) (by kernel_rfl) (by kernel_rfl) (fun _ _ _ h => h) (Or.inl ⟨by rfl, ?_⟩) (by assumption) ?_
  rotate_left
  · intro w hSw
    try dsimp only at hSw
    go_simp
    try with_reducible rfl
  simp only [Act.put, List.setIfInBounds_toArray, List.set_cons_zero, List.set_cons_succ]
  refine wpAnyH_take (i := 3) (oi := ⟨some 24, _, _, _, _, _⟩) (v := ?_) rfl (by kernel_rfl) (by kernel_rfl) (by kernel_rfl) (fun _ _ _ h => h) (Or.inl ⟨by rfl, ?_⟩) (by assumption) ?_
  rotate_left
  · intro w hSw
    try dsimp only at hSw
    go_simp
    try with_reducible rfl
  simp only [Act.put, List.setIfInBounds_toArray, List.set_cons_zero, List.set_cons_succ]
  refine wpAnyH_take (i := 4) (oi := ⟨some 25, _, _, _, _, _⟩) (v := ?_) rfl (by kernel_rfl) (by kernel_rfl) (by kernel_rfl) (fun _ _ _ h => h) (Or.inl ⟨by rfl, ?_⟩) (by assumption) ?_
  rotate_left
  · intro w hSw
    try dsimp only at hSw
    go_simp
    try with_reducible rfl
  simp only [Act.put, List.setIfInBounds_toArray, List.set_cons_zero, List.set_cons_succ]
  refine wpAnyH_take (i := 6) (oi := ⟨some 27, _, _, _, _, _⟩) (v := ?_) rfl (by kernel_rfl) (by kernel_rfl) (by kernel_rfl) (fun _ _ _ h => h) (Or.inl ⟨by rfl, ?_⟩) (by assumption) ?_
  rotate_left
  · intro w hSw
    try dsimp only at hSw
    go_simp
    try with_reducible rfl
  simp only [Act.put, List.setIfInBounds_toArray, List.set_cons_zero, List.set_cons_succ]
  refine wpAnyH_take (i := 7) (oi := ⟨some 28, _, _, _, _, _⟩) (v := ?_) rfl (by kernel_rfl) (by kernel_rfl) (by kernel_rfl) (fun _ _ _ h => h) (Or.inl ⟨by rfl, ?_⟩) (by assumption) ?_
  rotate_left
  · intro w hSw
    try dsimp only at hSw
    go_simp
    try with_reducible rfl
  simp only [Act.put, List.setIfInBounds_toArray, List.set_cons_zero, List.set_cons_succ]
  refine wpAnyH_take (i := 8) (oi := ⟨some 29, _, _, _, _, _⟩) (v := ?_) rfl (by kernel_rfl) (by kernel_rfl) (by kernel_rfl) (fun _ _ _ h => h) (Or.inl ⟨by rfl, ?_⟩) (by assumption) ?_
  rotate_left
  · intro w hSw
    try dsimp only at hSw
    go_simp
    try with_reducible rfl
  simp only [Act.put, List.setIfInBounds_toArray, List.set_cons_zero, List.set_cons_succ]
  refine wpAnyH_take (i := 9) (oi := ⟨some 30, _, _, _, _, _⟩) (v := ?_) rfl (by kernel_rfl) (by kernel_rfl) (by kernel_rfl) (fun _ _ _ h => h) (Or.inl ⟨by rfl, ?_⟩) (by assumption) ?_
  rotate_left
  · intro w hSw
    try dsimp only at hSw
    go_simp
    try with_reducible rfl
  simp only [Act.put, List.setIfInBounds_toArray, List.set_cons_zero, List.set_cons_succ]
  refine wpAnyH_take (i := 10) (oi := ⟨some 31, _, _, _, _, _⟩) (v := ?_) rfl (by kernel_rfl) (by kernel_rfl) (by kernel_rfl) (fun _ _ _ h => h) (Or.inl ⟨by rfl, ?_⟩) (by assumption) ?_
  rotate_left
  · intro w hSw
    try dsimp only at hSw
    go_simp
    try with_reducible rfl
  simp only [Act.put, List.setIfInBounds_toArray, List.set_cons_zero, List.set_cons_succ]
  refine wpAnyH_ready (rs := [0]) (by kernel_rfl) (by simp) ?_
  refine AllReadyH.cons rfl (fun K hK => ?_) AllReadyH.nil
  go_simp
  have z1 := OwnG.drewG (own_zeroG KSs w8 w8.heap.size 39 (Nat.le_refl _))
  have zb1 := (alloc_below w8 (.cells #[] 39)).drew
  have zs1 : w8.heap.size + 1 ≤ (w8.alloc (.cells #[] 39)).drew.heap.size := by show w8.heap.size + 1 ≤ (w8.alloc (.cells #[] 39)).heap.size; simp
  generalize (w8.alloc (.cells #[] 39)).drew = v1 at *
  refine hK.out _ _ ?_ (fun hHeld => ?_)
  · try dsimp only
    exact HSx.out _ (zb1.mono hBW)
  clear hK K
  refine wpAnyH_ready (rs := [5]) (by kernel_rfl) (by simp) ?_
  refine AllReadyH.cons rfl (fun K hK => ?_) AllReadyH.nil
  have rw1 : Below w.heap.size w v1 := acc_w8.out.trans (zb1.mono acc_w8.out.size)
  refine step_appG Try.tySs _ rfl (.tmp 21) (.tmp 25) 24 rfl w8.heap.size (some ⟨w8.heap.size, 0, none⟩) 0 0 I [] (ls.take I) (.slice (some ⟨g, 0, none⟩) I cc) rfl rfl HLn.out.1.symm z1 rfl (src_rowG Try.tySs.1 I cc (by show 0 < 4; omega) HLn.out.1.symm (RowG.takeG (HRW.out _ rw1) I) (fun e => by cases e)) (by omega) (by omega) ?_
  intro a2 c2 v2 ho2 hg2 ht2
  rw [Nat.zero_add, List.nil_append] at ho2
  have zs2 := hg2.size
  have zb2 := Below.grown zb1 hg2 zb1.size (fun j hj => by rw [ob_some, Option.some.injEq] at hj; omega)
  rw [Nat.zero_add]
  refine hK.out _ _ ?_ (fun hHeld => ?_)
  · try dsimp only
    exact HSx.out _ (zb2.mono hBW)
  clear hK K
  refine wpAnyH_ready (rs := [11]) (by kernel_rfl) (by simp) ?_
  refine AllReadyH.cons rfl (fun K hK => ?_) AllReadyH.nil
  have rw2 : Below w.heap.size w v2 := acc_w8.out.trans (zb2.mono acc_w8.out.size)
  refine step_appG Try.tySs _ rfl (.tmp 26) (.tmp 31) 24 rfl w8.heap.size a2 I c2 (n - (I + 1)) (ls.take I) (ls.drop (I + 1)) (.slice (some ⟨g, (I + 1) * 4, none⟩) (n - (I + 1)) (cc - (I + 1))) rfl HLn.out.1.symm HLn.out.2.symm ho2 rfl (src_rowG Try.tySs.1 _ _ (by show 0 < 4; omega) HLn.out.2.symm (RowG.fromG (HRW.out _ rw2) (I + 1)) (fun e => by cases e)) (by omega) (by omega) ?_
  intro a5 c5 v3 ho3 hg3 ht3
  have lo2 := fun j hj => (OwnG.lt ho2 j hj).1
  have zb3 := Below.grown zb2 hg3 zb2.size (fun j hj => by have := lo2 j hj; omega)
  have heM : I + (n - (I + 1)) = n - 1 := by omega
  rw [heM, erase_eqS] at ho3
  rw [heM]
  refine hK.out _ _ ?_ (fun hHeld => ?_)
  · try dsimp only
    exact HSx.out _ (zb3.mono hBW)
  clear hK K
  refine wpAnyH_take (i := 12) (oi := ⟨some 33, _, _, _, _, _⟩) (v := ?_) rfl (by kernel_rfl) (by kernel_rfl) (by kernel_rfl) (fun _ _ _ h => h) (Or.inl ⟨by rfl, ?_⟩) (by assumption) ?_
  rotate_left
  · intro w hSw
    try dsimp only at hSw
    go_simp
    try with_reducible rfl
  simp only [Act.put, List.setIfInBounds_toArray]
  have t0 := (zb3.cell ouL_w8).trans ou0_w8
  have t1 := (zb3.cell ouL_w8).trans ou1_w8
  have tF : ∀ o, v3.frozen? ⟨w3.heap.size, o, none⟩ = false := fun o => (zb3.frozen ouL_w8).trans (ouF_w8 o)
  refine wpAnyH_ready (rs := [13]) (by kernel_rfl) (by simp) ?_
  refine AllReadyH.cons rfl (fun K hK => ?_) AllReadyH.nil
  go_simp
  refine hK.out _ _ ?_ (fun hHeld => ?_)
  · try dsimp only
    exact HSx.out _ ((zb3.mono hBW).setCell (Nat.le_refl _) _)
  clear hK K
  have HE := hidP (hHeld.2)
  refine wpAnyH_done (by kernel_rfl) ?_ _
  clear hHeld
  clear HE HSx t0 t1 tF
  have HO3 := hidP ho3
  clear ho3 hg3 ht3 ho2 hg2 ht2 z1 lo2
  have zb3' := zb3
  clear zb3 zb2 zb1
  have bk0_v3 := (zb3'.cell bkL_w8).trans bk0_w8
  have bk1_v3 := (zb3'.cell bkL_w8).trans bk1_w8
  have bkF_v3 : ∀ o, v3.frozen? ⟨w.heap.size, o, none⟩ = false := fun o => (zb3'.frozen bkL_w8).trans (bkF_w8 o)
  have bkL_v3 : w.heap.size < v3.heap.size := Nat.lt_of_lt_of_le bkL_w8 zb3'.size
  have rs0_v3 := (zb3'.cell rsL_w8).trans rs0_w8
  have rs1_v3 := (zb3'.cell rsL_w8).trans rs1_w8
  have rsF_v3 : ∀ o, v3.frozen? ⟨w.heap.size + 1, o, none⟩ = false := fun o => (zb3'.frozen rsL_w8).trans (rsF_w8 o)
  have rsL_v3 : w.heap.size + 1 < v3.heap.size := Nat.lt_of_lt_of_le rsL_w8 zb3'.size
  have ou0_v3 := (zb3'.cell ouL_w8).trans ou0_w8
  have ou1_v3 := (zb3'.cell ouL_w8).trans ou1_w8
  have ouF_v3 : ∀ o, v3.frozen? ⟨w3.heap.size, o, none⟩ = false := fun o => (zb3'.frozen ouL_w8).trans (ouF_w8 o)
  have ouL_v3 : w3.heap.size < v3.heap.size := Nat.lt_of_lt_of_le ouL_w8 zb3'.size
  have oL_v3 := hidP (OwnG.later oL_w8.out zb3')
  have acc_v3 := hidP (acc_w8.out.trans (zb3'.mono acc_w8.out.size))
  have sz_v3 : Hid (w8.heap.size ≤ v3.heap.size) := hidP zb3'.size
  clear zb3' bk0_w8 bk1_w8 bkF_w8 bkL_w8 rs0_w8 rs1_w8 rsF_w8 rsL_w8 ou0_w8 ou1_w8 ouF_w8 ouL_w8 oL_w8 acc_w8
  have oP_v3 := hidP (HO3.out)
  have lhP : Hid (∀ k, (Value.slice a5 (n - 1) c5).ownBlock = some k → w8.heap.size ≤ k ∧ k < v3.heap.size) := hidP (fun k hk => OwnG.lt oP_v3.out k hk)
  clear HO3 oL_v3
  have ou0_V9 : (v3.setCell ⟨w3.heap.size, 0, none⟩ (.slice a5 (n - 1) c5)).cell? ⟨w3.heap.size, 0, none⟩ = some (.slice a5 (n - 1) c5) := by simp [go_sem, ou0_v3]
  have ou1_V9 : (v3.setCell ⟨w3.heap.size, 0, none⟩ (.slice a5 (n - 1) c5)).cell? ⟨w3.heap.size, 1, none⟩ = some (.int .i64 N) := by simp [go_sem, ou1_v3]
  have bk0_V9 : (v3.setCell ⟨w3.heap.size, 0, none⟩ (.slice a5 (n - 1) c5)).cell? ⟨w.heap.size, 0, none⟩ = some (.slice (some ⟨g, 0, none⟩) n cc) := cell_set1 (bk0_v3) (by have := as_W1.out; have := sz_W1.out; have := as_W2.out; have := sz_W2.out; have := sz_w3.out; have := as_W4.out; have := sz_W4.out; have := sz_w5.out; have := sz_w8.out; have := sz_v3.out; omega)
  have bk1_V9 : (v3.setCell ⟨w3.heap.size, 0, none⟩ (.slice a5 (n - 1) c5)).cell? ⟨w.heap.size, 1, none⟩ = some (.int .i64 N) := cell_set1 (bk1_v3) (by have := as_W1.out; have := sz_W1.out; have := as_W2.out; have := sz_W2.out; have := sz_w3.out; have := as_W4.out; have := sz_W4.out; have := sz_w5.out; have := sz_w8.out; have := sz_v3.out; omega)
  have bkF_V9 : ∀ o, (v3.setCell ⟨w3.heap.size, 0, none⟩ (.slice a5 (n - 1) c5)).frozen? ⟨w.heap.size, o, none⟩ = false := fun o => frz_set1 ((bkF_v3 o))
  have bkL_V9 : w.heap.size < (v3.setCell ⟨w3.heap.size, 0, none⟩ (.slice a5 (n - 1) c5)).heap.size := by simpa using bkL_v3
  have rs0_V9 : (v3.setCell ⟨w3.heap.size, 0, none⟩ (.slice a5 (n - 1) c5)).cell? ⟨w.heap.size + 1, 0, none⟩ = some (.slice none 0 0) := cell_set1 (rs0_v3) (by have := as_W1.out; have := sz_W1.out; have := as_W2.out; have := sz_W2.out; have := sz_w3.out; have := as_W4.out; have := sz_W4.out; have := sz_w5.out; have := sz_w8.out; have := sz_v3.out; omega)
  have rs1_V9 : (v3.setCell ⟨w3.heap.size, 0, none⟩ (.slice a5 (n - 1) c5)).cell? ⟨w.heap.size + 1, 1, none⟩ = some (.int .i64 0) := cell_set1 (rs1_v3) (by have := as_W1.out; have := sz_W1.out; have := as_W2.out; have := sz_W2.out; have := sz_w3.out; have := as_W4.out; have := sz_W4.out; have := sz_w5.out; have := sz_w8.out; have := sz_v3.out; omega)
  have rsF_V9 : ∀ o, (v3.setCell ⟨w3.heap.size, 0, none⟩ (.slice a5 (n - 1) c5)).frozen? ⟨w.heap.size + 1, o, none⟩ = false := fun o => frz_set1 ((rsF_v3 o))
  have rsL_V9 : w.heap.size + 1 < (v3.setCell ⟨w3.heap.size, 0, none⟩ (.slice a5 (n - 1) c5)).heap.size := by simpa using rsL_v3
  have ouF_V9 : ∀ o, (v3.setCell ⟨w3.heap.size, 0, none⟩ (.slice a5 (n - 1) c5)).frozen? ⟨w3.heap.size, o, none⟩ = false := fun o => frz_set1 ((ouF_v3 o))
  have ouL_V9 : w3.heap.size < (v3.setCell ⟨w3.heap.size, 0, none⟩ (.slice a5 (n - 1) c5)).heap.size := by simpa using ouL_v3
  have oP_V9 : Hid (OwnG KSs 39 (v3.setCell ⟨w3.heap.size, 0, none⟩ (.slice a5 (n - 1) c5)) (w8.heap.size) (.slice a5 (n - 1) c5) (ls.eraseIdx I)) := hidP (OwnG.grown (oP_v3.out) (grown_cellG _ _ _ _) (OwnG.ne_of oP_v3.out (by have := as_W1.out; have := sz_W1.out; have := as_W2.out; have := sz_W2.out; have := sz_w3.out; have := as_W4.out; have := sz_W4.out; have := sz_w5.out; have := sz_w8.out; have := sz_v3.out; omega)))
  have acc_V9 : Hid (Below w.heap.size w (v3.setCell ⟨w3.heap.size, 0, none⟩ (.slice a5 (n - 1) c5))) := hidP (Below.setCell (acc_v3.out) (by have := as_W1.out; have := sz_W1.out; have := as_W2.out; have := sz_W2.out; have := sz_w3.out; have := as_W4.out; have := sz_W4.out; have := sz_w5.out; have := sz_w8.out; have := sz_v3.out; try dsimp only; omega) _)
  have sz_V9 : Hid ((v3.setCell ⟨w3.heap.size, 0, none⟩ (.slice a5 (n - 1) c5)).heap.size = v3.heap.size) := hidP (by simp)
  generalize v3.setCell ⟨w3.heap.size, 0, none⟩ (.slice a5 (n - 1) c5) = V9 at *
  clear ou0_v3 ou1_v3 bk0_v3 bk1_v3 bkF_v3 bkL_v3 rs0_v3 rs1_v3 rsF_v3 rsL_v3 ouF_v3 ouL_v3 oP_v3 acc_v3
  go_wp2_with fail
  refine bodyPost_ret (v := .tuple #[.agg #[.slice a5 (n - 1) c5, .int .i64 N], .bool true]) (by simp [results, Try.results39, go_sem, rs0_V9, rs1_V9]) rfl ⟨_, _, rfl, ?_, ?_⟩
  · refine OwnG.mono (B := w8.heap.size) ?_ (by have := as_W1.out; have := sz_W1.out; have := as_W2.out; have := sz_W2.out; have := sz_w3.out; have := as_W4.out; have := sz_W4.out; have := sz_w5.out; have := sz_w8.out; have := sz_v3.out; have := sz_V9.out; omega)
    iterate 2 (with_reducible refine OwnG.grown ?_ (grown_cellG _ _ _ _) ?_; rotate_left; (focus (first | exact OwnG.ne_of oP_V9.out (by have := as_W1.out; have := sz_W1.out; have := as_W2.out; have := sz_W2.out; have := sz_w3.out; have := as_W4.out; have := sz_W4.out; have := sz_w5.out; have := sz_w8.out; have := sz_v3.out; have := sz_V9.out; omega))))
    with_reducible exact oP_V9.out
  · repeat (with_reducible refine Below.setCell ?_ ?_ _; rotate_left; (focus (first | (simp; done) | (simp; omega) | (dsimp only; have := as_W1.out; have := sz_W1.out; have := as_W2.out; have := sz_W2.out; have := sz_w3.out; have := as_W4.out; have := sz_W4.out; have := sz_w5.out; have := sz_w8.out; have := sz_v3.out; have := sz_V9.out; omega))))
    exact acc_V9.out

end Go.Proofs.Ytjenbmiiikeenaa
