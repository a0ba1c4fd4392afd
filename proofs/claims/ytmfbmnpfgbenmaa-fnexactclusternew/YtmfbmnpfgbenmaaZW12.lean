/-
  Both KeepNew of a right group, wherever it lies.
-/
import Derived.Test.YtmfbmnpfgbenmaaZW5
import Derived.Test.YtmfbmnpfgbenmaaZW6
import Derived.Test.YtmfbmnpfgbenmaaZW11
namespace Go.Proofs.Ytmfbmnpfgbenmaa
open Go.ChangeShapes Go.WideShapes Go.ChangeAt Go.RowKit Go.Joins Go.Deep

theorem box8A (w : World) (t : TypeId) (x0 x1 x2 x3 x4 x5 x6 x7 : Value) : (w.alloc (.cells #[x0, x1, x2, x3, x4, x5, x6, x7] t)).cell? ⟨w.heap.size, 0, none⟩ = some x0 ∧ (w.alloc (.cells #[x0, x1, x2, x3, x4, x5, x6, x7] t)).cell? ⟨w.heap.size, 1, none⟩ = some x1 ∧ (w.alloc (.cells #[x0, x1, x2, x3, x4, x5, x6, x7] t)).cell? ⟨w.heap.size, 2, none⟩ = some x2 ∧ (w.alloc (.cells #[x0, x1, x2, x3, x4, x5, x6, x7] t)).cell? ⟨w.heap.size, 3, none⟩ = some x3 ∧ (w.alloc (.cells #[x0, x1, x2, x3, x4, x5, x6, x7] t)).cell? ⟨w.heap.size, 4, none⟩ = some x4 ∧ (w.alloc (.cells #[x0, x1, x2, x3, x4, x5, x6, x7] t)).cell? ⟨w.heap.size, 5, none⟩ = some x5 ∧ (w.alloc (.cells #[x0, x1, x2, x3, x4, x5, x6, x7] t)).cell? ⟨w.heap.size, 6, none⟩ = some x6 ∧ (w.alloc (.cells #[x0, x1, x2, x3, x4, x5, x6, x7] t)).cell? ⟨w.heap.size, 7, none⟩ = some x7 := ⟨by simp [go_sem], by simp [go_sem], by simp [go_sem], by simp [go_sem], by simp [go_sem], by simp [go_sem], by simp [go_sem], by simp [go_sem]⟩
set_option maxRecDepth 10000 in
set_option maxHeartbeats 2000000 in
theorem iKnA_yes (ap : Option Addr) (np cp : Nat) (ab : Option Addr) (nb cb : Nat) (ps bs : List Int) (w : World) (hnp : np = ps.length) (hnb : nb = bs.length) (hP : RowG KI w ap ps) (hK : RowG KI w ab bs) (hl : np ≤ 1048576) (hl' : nb ≤ 1048576) (hr : grB ps bs = true) :
    Calls Try.prog 27 #[.agg #[.slice ap np cp, .slice ab nb cb]] w fun e w' => ∃ a c b d, e = .returned (.agg #[.int .i64 0, .int .i64 0, .int .i64 0, .int .i64 0, .slice a np c, .slice b nb d, .slice none 0 0, .slice none 0 0]) ∧ OwnG KI 3 w' w.heap.size (.slice a np c) ps ∧ OwnG KI 3 w' w.heap.size (.slice b nb d) bs ∧ (∀ k, (Value.slice a np c).ownBlock = some k → (Value.slice b nb d).ownBlock ≠ some k) ∧ Below w.heap.size w w' := by
  have HOw := hidP (fun W h9 => ownGroup_any ap np cp ab nb cb ps bs W hnp hnb (hP.later h9) (hK.later h9) hl hl')
  have HIm := hidP (fun W h9 => iGroupOk_any ap np cp ab nb cb ps bs W hnp hnb (hP.later h9) (hK.later h9) hl hl')
  rw [hr] at HIm
  clear hP hK hnp hnb hr
  go_enter Try.func27, Try.ntmps27
  go_wp2_with fail
  obtain ⟨bk0_W1, bk1_W1⟩ := box2D w 25 (.slice ap np cp) (.slice ab nb cb)
  have bkF_W1 : ∀ o, (w.alloc (.cells #[.slice ap np cp, .slice ab nb cb] 25)).frozen? ⟨w.heap.size, o, none⟩ = false := fun o => by simp [go_sem]
  have bkL_W1 : w.heap.size < (w.alloc (.cells #[.slice ap np cp, .slice ab nb cb] 25)).heap.size := by simp
  have ab_W1 := alloc_below w (.cells #[.slice ap np cp, .slice ab nb cb] 25)
  have as_W1 : Hid ((w.alloc (.cells #[.slice ap np cp, .slice ab nb cb] 25)).heap.size = w.heap.size + 1) := hidP (by simp)
  generalize w.alloc (.cells #[.slice ap np cp, .slice ab nb cb] 25) = W1 at *
  have acc_W1 := hidP (ab_W1)
  have sz_W1 : Hid (w.heap.size ≤ W1.heap.size) := hidP ab_W1.size
  clear ab_W1 
  obtain ⟨rs0_W2, rs1_W2, rs2_W2, rs3_W2, rs4_W2, rs5_W2, rs6_W2, rs7_W2⟩ := box8A W1 54 (.int .i64 0) (.int .i64 0) (.int .i64 0) (.int .i64 0) (.slice none 0 0) (.slice none 0 0) (.slice none 0 0) (.slice none 0 0)
  have rsF_W2 : ∀ o, (W1.alloc (.cells #[.int .i64 0, .int .i64 0, .int .i64 0, .int .i64 0, .slice none 0 0, .slice none 0 0, .slice none 0 0, .slice none 0 0] 54)).frozen? ⟨W1.heap.size, o, none⟩ = false := fun o => by simp [go_sem]
  have rsL_W2 : W1.heap.size < (W1.alloc (.cells #[.int .i64 0, .int .i64 0, .int .i64 0, .int .i64 0, .slice none 0 0, .slice none 0 0, .slice none 0 0, .slice none 0 0] 54)).heap.size := by simp
  have ab_W2 := alloc_below W1 (.cells #[.int .i64 0, .int .i64 0, .int .i64 0, .int .i64 0, .slice none 0 0, .slice none 0 0, .slice none 0 0, .slice none 0 0] 54)
  have as_W2 : Hid ((W1.alloc (.cells #[.int .i64 0, .int .i64 0, .int .i64 0, .int .i64 0, .slice none 0 0, .slice none 0 0, .slice none 0 0, .slice none 0 0] 54)).heap.size = W1.heap.size + 1) := hidP (by simp)
  generalize W1.alloc (.cells #[.int .i64 0, .int .i64 0, .int .i64 0, .int .i64 0, .slice none 0 0, .slice none 0 0, .slice none 0 0, .slice none 0 0] 54) = W2 at *
  have bk0_W2 := (ab_W2.cell bkL_W1).trans bk0_W1
  have bk1_W2 := (ab_W2.cell bkL_W1).trans bk1_W1
  have bkF_W2 : ∀ o, W2.frozen? ⟨w.heap.size, o, none⟩ = false := fun o => (ab_W2.frozen bkL_W1).trans (bkF_W1 o)
  have bkL_W2 : w.heap.size < W2.heap.size := Nat.lt_of_lt_of_le bkL_W1 ab_W2.size
  have acc_W2 := hidP (acc_W1.out.trans (ab_W2.mono acc_W1.out.size))
  have sz_W2 : Hid (W1.heap.size ≤ W2.heap.size) := hidP ab_W2.size
  clear ab_W2 bk0_W1 bk1_W1 bkF_W1 bkL_W1 acc_W1
  rw [as_W1.out] at rs0_W2 rs1_W2 rs2_W2 rs3_W2 rs4_W2 rs5_W2 rs6_W2 rs7_W2 rsL_W2
  have rsF_W2' : ∀ o, W2.frozen? ⟨w.heap.size + 1, o, none⟩ = false := fun o => by have := rsF_W2 o; rw [as_W1.out] at this; exact this
  clear rsF_W2
  have rsF_W2 := rsF_W2'
  clear rsF_W2'
  refine (HIm.out _ acc_W2.out).mono ?_
  rintro e w3 ⟨rfl, hb3⟩
  have bk0_w3 := (hb3.cell bkL_W2).trans bk0_W2
  have bk1_w3 := (hb3.cell bkL_W2).trans bk1_W2
  have bkF_w3 : ∀ o, w3.frozen? ⟨w.heap.size, o, none⟩ = false := fun o => (hb3.frozen bkL_W2).trans (bkF_W2 o)
  have bkL_w3 : w.heap.size < w3.heap.size := Nat.lt_of_lt_of_le bkL_W2 hb3.size
  have rs0_w3 := (hb3.cell rsL_W2).trans rs0_W2
  have rs1_w3 := (hb3.cell rsL_W2).trans rs1_W2
  have rs2_w3 := (hb3.cell rsL_W2).trans rs2_W2
  have rs3_w3 := (hb3.cell rsL_W2).trans rs3_W2
  have rs4_w3 := (hb3.cell rsL_W2).trans rs4_W2
  have rs5_w3 := (hb3.cell rsL_W2).trans rs5_W2
  have rs6_w3 := (hb3.cell rsL_W2).trans rs6_W2
  have rs7_w3 := (hb3.cell rsL_W2).trans rs7_W2
  have rsF_w3 : ∀ o, w3.frozen? ⟨w.heap.size + 1, o, none⟩ = false := fun o => (hb3.frozen rsL_W2).trans (rsF_W2 o)
  have rsL_w3 : w.heap.size + 1 < w3.heap.size := Nat.lt_of_lt_of_le rsL_W2 hb3.size
  have acc_w3 := hidP (acc_W2.out.trans (hb3.mono acc_W2.out.size))
  have sz_w3 : Hid (W2.heap.size ≤ w3.heap.size) := hidP hb3.size
  clear hb3 bk0_W2 bk1_W2 bkF_W2 bkL_W2 rs0_W2 rs1_W2 rs2_W2 rs3_W2 rs4_W2 rs5_W2 rs6_W2 rs7_W2 rsF_W2 rsL_W2 acc_W2
  go_wp2_with fail
  refine (HOw.out _ acc_w3.out).mono ?_
  rintro e w4 ⟨a4, c4, b4, d4, rfl, og4, oh4, nq4, hb4⟩
  have OX := hidP (And.intro og4 (And.intro oh4 nq4))
  clear og4 oh4 nq4
  have bk0_w4 := (hb4.cell bkL_w3).trans bk0_w3
  have bk1_w4 := (hb4.cell bkL_w3).trans bk1_w3
  have bkF_w4 : ∀ o, w4.frozen? ⟨w.heap.size, o, none⟩ = false := fun o => (hb4.frozen bkL_w3).trans (bkF_w3 o)
  have bkL_w4 : w.heap.size < w4.heap.size := Nat.lt_of_lt_of_le bkL_w3 hb4.size
  have rs0_w4 := (hb4.cell rsL_w3).trans rs0_w3
  have rs1_w4 := (hb4.cell rsL_w3).trans rs1_w3
  have rs2_w4 := (hb4.cell rsL_w3).trans rs2_w3
  have rs3_w4 := (hb4.cell rsL_w3).trans rs3_w3
  have rs4_w4 := (hb4.cell rsL_w3).trans rs4_w3
  have rs5_w4 := (hb4.cell rsL_w3).trans rs5_w3
  have rs6_w4 := (hb4.cell rsL_w3).trans rs6_w3
  have rs7_w4 := (hb4.cell rsL_w3).trans rs7_w3
  have rsF_w4 : ∀ o, w4.frozen? ⟨w.heap.size + 1, o, none⟩ = false := fun o => (hb4.frozen rsL_w3).trans (rsF_w3 o)
  have rsL_w4 : w.heap.size + 1 < w4.heap.size := Nat.lt_of_lt_of_le rsL_w3 hb4.size
  have acc_w4 := hidP (acc_w3.out.trans (hb4.mono acc_w3.out.size))
  have sz_w4 : Hid (w3.heap.size ≤ w4.heap.size) := hidP hb4.size
  clear hb4 bk0_w3 bk1_w3 bkF_w3 bkL_w3 rs0_w3 rs1_w3 rs2_w3 rs3_w3 rs4_w3 rs5_w3 rs6_w3 rs7_w3 rsF_w3 rsL_w3 acc_w3
  have oP_w4 := hidP (OX.out.1)
  have lhP : Hid (∀ k, (Value.slice a4 np c4).ownBlock = some k → w3.heap.size ≤ k ∧ k < w4.heap.size) := hidP (fun k hk => OwnG.lt oP_w4.out k hk)
  have oQ_w4 := hidP (OX.out.2.1)
  have lhQ : Hid (∀ k, (Value.slice b4 nb d4).ownBlock = some k → w3.heap.size ≤ k ∧ k < w4.heap.size) := hidP (fun k hk => OwnG.lt oQ_w4.out k hk)
  have ne4 := hidP OX.out.2.2
  clear OX
  go_wp2_with fail
  refine bodyPost_ret (v := .agg #[.int .i64 0, .int .i64 0, .int .i64 0, .int .i64 0, .slice a4 np c4, .slice b4 nb d4, .slice none 0 0, .slice none 0 0]) (by simp [results, Try.results27, go_sem, rs0_w4, rs1_w4, rs2_w4, rs3_w4, rs4_w4, rs5_w4, rs6_w4, rs7_w4]) rfl ⟨_, _, _, _, rfl, ?_, ?_, ne4.out, ?_⟩
  · refine OwnG.mono (B := w3.heap.size) ?_ (by have := as_W1.out; have := sz_W1.out; have := as_W2.out; have := sz_W2.out; have := sz_w3.out; have := sz_w4.out; omega)
    iterate 8 (with_reducible refine OwnG.grown ?_ (grown_cellG _ _ _ _) ?_; rotate_left; (focus (exact OwnG.ne_of oP_w4.out (by have := as_W1.out; have := sz_W1.out; have := as_W2.out; have := sz_W2.out; have := sz_w3.out; have := sz_w4.out; omega))))
    with_reducible exact oP_w4.out
  · refine OwnG.mono (B := w3.heap.size) ?_ (by have := as_W1.out; have := sz_W1.out; have := as_W2.out; have := sz_W2.out; have := sz_w3.out; have := sz_w4.out; omega)
    iterate 8 (with_reducible refine OwnG.grown ?_ (grown_cellG _ _ _ _) ?_; rotate_left; (focus (exact OwnG.ne_of oQ_w4.out (by have := as_W1.out; have := sz_W1.out; have := as_W2.out; have := sz_W2.out; have := sz_w3.out; have := sz_w4.out; omega))))
    with_reducible exact oQ_w4.out
  · repeat (with_reducible refine Below.setCell ?_ ?_ _; rotate_left; (focus (first | (simp; done) | (simp; omega) | (dsimp only; have := as_W1.out; have := sz_W1.out; have := as_W2.out; have := sz_W2.out; have := sz_w3.out; have := sz_w4.out; omega))))
    exact acc_w4.out

set_option maxRecDepth 10000 in
set_option maxHeartbeats 2000000 in
theorem sKnA_yes (ap : Option Addr) (np cp : Nat) (ab : Option Addr) (nb cb : Nat) (ps bs : List Int) (w : World) (hnp : np = ps.length) (hnb : nb = bs.length) (hP : RowG KI w ap ps) (hK : RowG KI w ab bs) (hcp : ap = none → cp = 0) (hcb : ab = none → cb = 0) (hl : np ≤ 1048576) (hl' : nb ≤ 1048576) (hr : grB ps bs = true) :
    Calls Try.prog 20 #[.agg #[.slice ap np cp, .slice ab nb cb]] w fun e w' => ∃ a c b d, e = .returned (.agg #[.int .i64 0, .int .i64 0, .int .i64 0, .int .i64 0, .slice a np c, .slice b nb d, .slice none 0 0, .slice none 0 0]) ∧ OwnG KI 3 w' w.heap.size (.slice a np c) ps ∧ OwnG KI 3 w' w.heap.size (.slice b nb d) bs ∧ (∀ k, (Value.slice a np c).ownBlock = some k → (Value.slice b nb d).ownBlock ≠ some k) ∧ Below w.heap.size w w' := by
  have HOw := hidP (fun W h9 => l12Copy_any ap np cp ab nb cb ps bs W hnp hnb (hP.later h9) (hK.later h9) hcp hcb hl hl')
  have HIm := hidP (fun W h9 => sGroupOk_any ap np cp ab nb cb ps bs W hnp hnb (hP.later h9) (hK.later h9) hl hl')
  rw [hr] at HIm
  clear hP hK hnp hnb hr hcp hcb
  go_enter Try.func20, Try.ntmps20
  go_wp2_with fail
  obtain ⟨bk0_W1, bk1_W1⟩ := box2D w 25 (.slice ap np cp) (.slice ab nb cb)
  have bkF_W1 : ∀ o, (w.alloc (.cells #[.slice ap np cp, .slice ab nb cb] 25)).frozen? ⟨w.heap.size, o, none⟩ = false := fun o => by simp [go_sem]
  have bkL_W1 : w.heap.size < (w.alloc (.cells #[.slice ap np cp, .slice ab nb cb] 25)).heap.size := by simp
  have ab_W1 := alloc_below w (.cells #[.slice ap np cp, .slice ab nb cb] 25)
  have as_W1 : Hid ((w.alloc (.cells #[.slice ap np cp, .slice ab nb cb] 25)).heap.size = w.heap.size + 1) := hidP (by simp)
  generalize w.alloc (.cells #[.slice ap np cp, .slice ab nb cb] 25) = W1 at *
  have acc_W1 := hidP (ab_W1)
  have sz_W1 : Hid (w.heap.size ≤ W1.heap.size) := hidP ab_W1.size
  clear ab_W1 
  obtain ⟨rs0_W2, rs1_W2, rs2_W2, rs3_W2, rs4_W2, rs5_W2, rs6_W2, rs7_W2⟩ := box8A W1 54 (.int .i64 0) (.int .i64 0) (.int .i64 0) (.int .i64 0) (.slice none 0 0) (.slice none 0 0) (.slice none 0 0) (.slice none 0 0)
  have rsF_W2 : ∀ o, (W1.alloc (.cells #[.int .i64 0, .int .i64 0, .int .i64 0, .int .i64 0, .slice none 0 0, .slice none 0 0, .slice none 0 0, .slice none 0 0] 54)).frozen? ⟨W1.heap.size, o, none⟩ = false := fun o => by simp [go_sem]
  have rsL_W2 : W1.heap.size < (W1.alloc (.cells #[.int .i64 0, .int .i64 0, .int .i64 0, .int .i64 0, .slice none 0 0, .slice none 0 0, .slice none 0 0, .slice none 0 0] 54)).heap.size := by simp
  have ab_W2 := alloc_below W1 (.cells #[.int .i64 0, .int .i64 0, .int .i64 0, .int .i64 0, .slice none 0 0, .slice none 0 0, .slice none 0 0, .slice none 0 0] 54)
  have as_W2 : Hid ((W1.alloc (.cells #[.int .i64 0, .int .i64 0, .int .i64 0, .int .i64 0, .slice none 0 0, .slice none 0 0, .slice none 0 0, .slice none 0 0] 54)).heap.size = W1.heap.size + 1) := hidP (by simp)
  generalize W1.alloc (.cells #[.int .i64 0, .int .i64 0, .int .i64 0, .int .i64 0, .slice none 0 0, .slice none 0 0, .slice none 0 0, .slice none 0 0] 54) = W2 at *
  have bk0_W2 := (ab_W2.cell bkL_W1).trans bk0_W1
  have bk1_W2 := (ab_W2.cell bkL_W1).trans bk1_W1
  have bkF_W2 : ∀ o, W2.frozen? ⟨w.heap.size, o, none⟩ = false := fun o => (ab_W2.frozen bkL_W1).trans (bkF_W1 o)
  have bkL_W2 : w.heap.size < W2.heap.size := Nat.lt_of_lt_of_le bkL_W1 ab_W2.size
  have acc_W2 := hidP (acc_W1.out.trans (ab_W2.mono acc_W1.out.size))
  have sz_W2 : Hid (W1.heap.size ≤ W2.heap.size) := hidP ab_W2.size
  clear ab_W2 bk0_W1 bk1_W1 bkF_W1 bkL_W1 acc_W1
  rw [as_W1.out] at rs0_W2 rs1_W2 rs2_W2 rs3_W2 rs4_W2 rs5_W2 rs6_W2 rs7_W2 rsL_W2
  have rsF_W2' : ∀ o, W2.frozen? ⟨w.heap.size + 1, o, none⟩ = false := fun o => by have := rsF_W2 o; rw [as_W1.out] at this; exact this
  clear rsF_W2
  have rsF_W2 := rsF_W2'
  clear rsF_W2'
  refine (HIm.out _ acc_W2.out).mono ?_
  rintro e w3 ⟨rfl, hb3⟩
  have bk0_w3 := (hb3.cell bkL_W2).trans bk0_W2
  have bk1_w3 := (hb3.cell bkL_W2).trans bk1_W2
  have bkF_w3 : ∀ o, w3.frozen? ⟨w.heap.size, o, none⟩ = false := fun o => (hb3.frozen bkL_W2).trans (bkF_W2 o)
  have bkL_w3 : w.heap.size < w3.heap.size := Nat.lt_of_lt_of_le bkL_W2 hb3.size
  have rs0_w3 := (hb3.cell rsL_W2).trans rs0_W2
  have rs1_w3 := (hb3.cell rsL_W2).trans rs1_W2
  have rs2_w3 := (hb3.cell rsL_W2).trans rs2_W2
  have rs3_w3 := (hb3.cell rsL_W2).trans rs3_W2
  have rs4_w3 := (hb3.cell rsL_W2).trans rs4_W2
  have rs5_w3 := (hb3.cell rsL_W2).trans rs5_W2
  have rs6_w3 := (hb3.cell rsL_W2).trans rs6_W2
  have rs7_w3 := (hb3.cell rsL_W2).trans rs7_W2
  have rsF_w3 : ∀ o, w3.frozen? ⟨w.heap.size + 1, o, none⟩ = false := fun o => (hb3.frozen rsL_W2).trans (rsF_W2 o)
  have rsL_w3 : w.heap.size + 1 < w3.heap.size := Nat.lt_of_lt_of_le rsL_W2 hb3.size
  have acc_w3 := hidP (acc_W2.out.trans (hb3.mono acc_W2.out.size))
  have sz_w3 : Hid (W2.heap.size ≤ w3.heap.size) := hidP hb3.size
  clear hb3 bk0_W2 bk1_W2 bkF_W2 bkL_W2 rs0_W2 rs1_W2 rs2_W2 rs3_W2 rs4_W2 rs5_W2 rs6_W2 rs7_W2 rsF_W2 rsL_W2 acc_W2
  go_wp2_with fail
  refine (HOw.out _ acc_w3.out).mono ?_
  rintro e w4 ⟨a4, c4, b4, d4, rfl, og4, oh4, nq4, hb4⟩
  have OX := hidP (And.intro og4 (And.intro oh4 nq4))
  clear og4 oh4 nq4
  have bk0_w4 := (hb4.cell bkL_w3).trans bk0_w3
  have bk1_w4 := (hb4.cell bkL_w3).trans bk1_w3
  have bkF_w4 : ∀ o, w4.frozen? ⟨w.heap.size, o, none⟩ = false := fun o => (hb4.frozen bkL_w3).trans (bkF_w3 o)
  have bkL_w4 : w.heap.size < w4.heap.size := Nat.lt_of_lt_of_le bkL_w3 hb4.size
  have rs0_w4 := (hb4.cell rsL_w3).trans rs0_w3
  have rs1_w4 := (hb4.cell rsL_w3).trans rs1_w3
  have rs2_w4 := (hb4.cell rsL_w3).trans rs2_w3
  have rs3_w4 := (hb4.cell rsL_w3).trans rs3_w3
  have rs4_w4 := (hb4.cell rsL_w3).trans rs4_w3
  have rs5_w4 := (hb4.cell rsL_w3).trans rs5_w3
  have rs6_w4 := (hb4.cell rsL_w3).trans rs6_w3
  have rs7_w4 := (hb4.cell rsL_w3).trans rs7_w3
  have rsF_w4 : ∀ o, w4.frozen? ⟨w.heap.size + 1, o, none⟩ = false := fun o => (hb4.frozen rsL_w3).trans (rsF_w3 o)
  have rsL_w4 : w.heap.size + 1 < w4.heap.size := Nat.lt_of_lt_of_le rsL_w3 hb4.size
  have acc_w4 := hidP (acc_w3.out.trans (hb4.mono acc_w3.out.size))
  have sz_w4 : Hid (w3.heap.size ≤ w4.heap.size) := hidP hb4.size
  clear hb4 bk0_w3 bk1_w3 bkF_w3 bkL_w3 rs0_w3 rs1_w3 rs2_w3 rs3_w3 rs4_w3 rs5_w3 rs6_w3 rs7_w3 rsF_w3 rsL_w3 acc_w3
  have oP_w4 := hidP (OX.out.1)
  have lhP : Hid (∀ k, (Value.slice a4 np c4).ownBlock = some k → w3.heap.size ≤ k ∧ k < w4.heap.size) := hidP (fun k hk => OwnG.lt oP_w4.out k hk)
  have oQ_w4 := hidP (OX.out.2.1)
  have lhQ : Hid (∀ k, (Value.slice b4 nb d4).ownBlock = some k → w3.heap.size ≤ k ∧ k < w4.heap.size) := hidP (fun k hk => OwnG.lt oQ_w4.out k hk)
  have ne4 := hidP OX.out.2.2
  clear OX
  go_wp2_with fail
  refine bodyPost_ret (v := .agg #[.int .i64 0, .int .i64 0, .int .i64 0, .int .i64 0, .slice a4 np c4, .slice b4 nb d4, .slice none 0 0, .slice none 0 0]) (by simp [results, Try.results20, go_sem, rs0_w4, rs1_w4, rs2_w4, rs3_w4, rs4_w4, rs5_w4, rs6_w4, rs7_w4]) rfl ⟨_, _, _, _, rfl, ?_, ?_, ne4.out, ?_⟩
  · refine OwnG.mono (B := w3.heap.size) ?_ (by have := as_W1.out; have := sz_W1.out; have := as_W2.out; have := sz_W2.out; have := sz_w3.out; have := sz_w4.out; omega)
    iterate 8 (with_reducible refine OwnG.grown ?_ (grown_cellG _ _ _ _) ?_; rotate_left; (focus (exact OwnG.ne_of oP_w4.out (by have := as_W1.out; have := sz_W1.out; have := as_W2.out; have := sz_W2.out; have := sz_w3.out; have := sz_w4.out; omega))))
    with_reducible exact oP_w4.out
  · refine OwnG.mono (B := w3.heap.size) ?_ (by have := as_W1.out; have := sz_W1.out; have := as_W2.out; have := sz_W2.out; have := sz_w3.out; have := sz_w4.out; omega)
    iterate 8 (with_reducible refine OwnG.grown ?_ (grown_cellG _ _ _ _) ?_; rotate_left; (focus (exact OwnG.ne_of oQ_w4.out (by have := as_W1.out; have := sz_W1.out; have := as_W2.out; have := sz_W2.out; have := sz_w3.out; have := sz_w4.out; omega))))
    with_reducible exact oQ_w4.out
  · repeat (with_reducible refine Below.setCell ?_ ?_ _; rotate_left; (focus (first | (simp; done) | (simp; omega) | (dsimp only; have := as_W1.out; have := sz_W1.out; have := as_W2.out; have := sz_W2.out; have := sz_w3.out; have := sz_w4.out; omega))))
    exact acc_w4.out


end Go.Proofs.Ytmfbmnpfgbenmaa
