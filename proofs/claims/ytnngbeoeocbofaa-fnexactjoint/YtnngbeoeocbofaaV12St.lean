/-
  The two Settled answer alike.
-/
import Derived.Test.YtnngbeoeocbofaaV12G
import Derived.Test.YtnngbeoeocbofaaV12Own
namespace Go.Proofs.Ytnngbeoeocbofaa
open Go.ChangeShapes Go.WideShapes Go.ChangeAt Go.RowKit Go.Joins Go.Deep

theorem isJoint_any (ap : Option Addr) (np cp : Nat) (ab : Option Addr) (nb cb : Nat) (w : World) :
    Calls Try.prog 46 #[.agg #[.slice ap np cp, .slice ab nb cb]] w fun e w' => e = .returned (.bool (decide (0 < nb))) ∧ Below w.heap.size w w' := by
  have hd : decide ((0 : Int) < (nb : Int)) = decide (0 < nb) := decide_eq_decide.2 (by omega)
  go_enter Try.func46, Try.ntmps46
  go_wp2_with fail
  go_ret
  exact ⟨retB (by first | rfl | exact hd | (simp; done)), alloc_below w _⟩
def Stp (p : Prop) : Prop := p
theorem stp {p : Prop} (h : Stp p) : p := h

set_option maxRecDepth 10000 in
set_option maxHeartbeats 2000000 in
theorem iSt_no (g h np nb : Nat) (ps bs : List Int) (w : World) (hnp : np = ps.length) (hnb : nb = bs.length) (hP : RowG KI w (some ⟨g, 0, none⟩) ps) (hK : RowG KI w (some ⟨h, 0, none⟩) bs) (hl : np ≤ 1048576) (hl' : nb ≤ 1048576) (hr : grB ps bs = false) :
    Calls Try.prog 28 #[.agg #[.slice (some ⟨g, 0, none⟩) np np, .slice (some ⟨h, 0, none⟩) nb nb]] w fun e w' => ∃ a c b d, e = .returned (.tuple #[.agg #[.slice a np c, .slice b nb d], .bool false]) ∧ OwnG KI 3 w' w.heap.size (.slice a np c) ps ∧ OwnG KI 3 w' w.heap.size (.slice b nb d) bs ∧ (∀ k, (Value.slice a np c).ownBlock = some k → (Value.slice b nb d).ownBlock ≠ some k) ∧ Below w.heap.size w w' := by
  have HOw := hidP (fun W h9 => ownGroup_any (some ⟨g, 0, none⟩) np np (some ⟨h, 0, none⟩) nb nb ps bs W hnp hnb (hP.later h9) (hK.later h9) hl hl')
  have HIm := hidP (fun W h9 => iGroupOk_any (some ⟨g, 0, none⟩) np np (some ⟨h, 0, none⟩) nb nb ps bs W hnp hnb (hP.later h9) (hK.later h9) hl hl')
  rw [hr] at HIm
  clear hP hK hnp hnb hr
  go_enter Try.func28, Try.ntmps28
  go_wp2_with fail
  obtain ⟨bk0_W1, bk1_W1⟩ := box2D w 26 (.slice (some ⟨g, 0, none⟩) np np) (.slice (some ⟨h, 0, none⟩) nb nb)
  have bkF_W1 : ∀ o, (w.alloc (.cells #[.slice (some ⟨g, 0, none⟩) np np, .slice (some ⟨h, 0, none⟩) nb nb] 26)).frozen? ⟨w.heap.size, o, none⟩ = false := fun o => by simp [go_sem]
  have bkL_W1 : w.heap.size < (w.alloc (.cells #[.slice (some ⟨g, 0, none⟩) np np, .slice (some ⟨h, 0, none⟩) nb nb] 26)).heap.size := by simp
  have ab_W1 := alloc_below w (.cells #[.slice (some ⟨g, 0, none⟩) np np, .slice (some ⟨h, 0, none⟩) nb nb] 26)
  have as_W1 : Hid ((w.alloc (.cells #[.slice (some ⟨g, 0, none⟩) np np, .slice (some ⟨h, 0, none⟩) nb nb] 26)).heap.size = w.heap.size + 1) := hidP (by simp)
  generalize w.alloc (.cells #[.slice (some ⟨g, 0, none⟩) np np, .slice (some ⟨h, 0, none⟩) nb nb] 26) = W1 at *
  have acc_W1 := hidP (ab_W1)
  have sz_W1 : Hid (w.heap.size ≤ W1.heap.size) := hidP ab_W1.size
  clear ab_W1 
  obtain ⟨rs0_W2, rs1_W2⟩ := box2D W1 26 (.slice none 0 0) (.slice none 0 0)
  have rsF_W2 : ∀ o, (W1.alloc (.cells #[.slice none 0 0, .slice none 0 0] 26)).frozen? ⟨W1.heap.size, o, none⟩ = false := fun o => by simp [go_sem]
  have rsL_W2 : W1.heap.size < (W1.alloc (.cells #[.slice none 0 0, .slice none 0 0] 26)).heap.size := by simp
  have ab_W2 := alloc_below W1 (.cells #[.slice none 0 0, .slice none 0 0] 26)
  have as_W2 : Hid ((W1.alloc (.cells #[.slice none 0 0, .slice none 0 0] 26)).heap.size = W1.heap.size + 1) := hidP (by simp)
  generalize W1.alloc (.cells #[.slice none 0 0, .slice none 0 0] 26) = W2 at *
  have bk0_W2 := (ab_W2.cell bkL_W1).trans bk0_W1
  have bk1_W2 := (ab_W2.cell bkL_W1).trans bk1_W1
  have bkF_W2 : ∀ o, W2.frozen? ⟨w.heap.size, o, none⟩ = false := fun o => (ab_W2.frozen bkL_W1).trans (bkF_W1 o)
  have bkL_W2 : w.heap.size < W2.heap.size := Nat.lt_of_lt_of_le bkL_W1 ab_W2.size
  have acc_W2 := hidP (acc_W1.out.trans (ab_W2.mono acc_W1.out.size))
  have sz_W2 : Hid (W1.heap.size ≤ W2.heap.size) := hidP ab_W2.size
  clear ab_W2 bk0_W1 bk1_W1 bkF_W1 bkL_W1 acc_W1
  rw [as_W1.out] at rs0_W2 rs1_W2 rsL_W2
  have rsF_W2' : ∀ o, W2.frozen? ⟨w.heap.size + 1, o, none⟩ = false := fun o => by have := rsF_W2 o; rw [as_W1.out] at this; exact this
  clear rsF_W2
  have rsF_W2 := rsF_W2'
  clear rsF_W2'
  refine (HIm.out _ acc_W2.out).mono ?_
  rintro e w3 ⟨rfl, hb3⟩
  have bk0_w3 := (hb3.cell bkL_W2).trans bk0_W2
  have bk1_w3 := (hb3.cell bkL_W2).trans bk1_W2
  have bkF_w3 : ∀ o, w3.frozen? ⟨w.heap.size, o, none⟩ = false := fun o => (hb3.frozen bkL_W2).trans (bkF_W2 o)
  have bkL_w3 : w.heap.size < w3.heap.size := Nat.lt_of_lt_of_le bkL_W2 hb3.size
  have rs0_w3 := (hb3.cell rsL_W2).trans rs0_W2
  have rs1_w3 := (hb3.cell rsL_W2).trans rs1_W2
  have rsF_w3 : ∀ o, w3.frozen? ⟨w.heap.size + 1, o, none⟩ = false := fun o => (hb3.frozen rsL_W2).trans (rsF_W2 o)
  have rsL_w3 : w.heap.size + 1 < w3.heap.size := Nat.lt_of_lt_of_le rsL_W2 hb3.size
  have acc_w3 := hidP (acc_W2.out.trans (hb3.mono acc_W2.out.size))
  have sz_w3 : Hid (W2.heap.size ≤ w3.heap.size) := hidP hb3.size
  clear hb3 bk0_W2 bk1_W2 bkF_W2 bkL_W2 rs0_W2 rs1_W2 rsF_W2 rsL_W2 acc_W2
  go_wp2_with fail
  refine (HOw.out _ acc_w3.out).mono ?_
  rintro e w4 ⟨a4, c4, b4, d4, rfl, og4, oh4, nq4, hb4⟩
  have OX := hidP (And.intro og4 (And.intro oh4 nq4))
  clear og4 oh4 nq4
  have bk0_w4 := (hb4.cell bkL_w3).trans bk0_w3
  have bk1_w4 := (hb4.cell bkL_w3).trans bk1_w3
  have bkF_w4 : ∀ o, w4.frozen? ⟨w.heap.size, o, none⟩ = false := fun o => (hb4.frozen bkL_w3).trans (bkF_w3 o)
  have bkL_w4 : w.heap.size < w4.heap.size := Nat.lt_of_lt_of_le bkL_w3 hb4.size
  have rs0_w4 := (hb4.cell rsL_w3).trans rs0_w3
  have rs1_w4 := (hb4.cell rsL_w3).trans rs1_w3
  have rsF_w4 : ∀ o, w4.frozen? ⟨w.heap.size + 1, o, none⟩ = false := fun o => (hb4.frozen rsL_w3).trans (rsF_w3 o)
  have rsL_w4 : w.heap.size + 1 < w4.heap.size := Nat.lt_of_lt_of_le rsL_w3 hb4.size
  have acc_w4 := hidP (acc_w3.out.trans (hb4.mono acc_w3.out.size))
  have sz_w4 : Hid (w3.heap.size ≤ w4.heap.size) := hidP hb4.size
  clear hb4 bk0_w3 bk1_w3 bkF_w3 bkL_w3 rs0_w3 rs1_w3 rsF_w3 rsL_w3 acc_w3
  have oP_w4 := hidP (OX.out.1)
  have lhP : Hid (∀ k, (Value.slice a4 np c4).ownBlock = some k → w3.heap.size ≤ k ∧ k < w4.heap.size) := hidP (fun k hk => OwnG.lt oP_w4.out k hk)
  have oQ_w4 := hidP (OX.out.2.1)
  have lhQ : Hid (∀ k, (Value.slice b4 nb d4).ownBlock = some k → w3.heap.size ≤ k ∧ k < w4.heap.size) := hidP (fun k hk => OwnG.lt oQ_w4.out k hk)
  have ne4 := hidP OX.out.2.2
  clear OX
  go_wp2_with fail
  refine bodyPost_ret (v := .tuple #[.agg #[.slice a4 np c4, .slice b4 nb d4], .bool false]) (by simp [results, Try.results28, go_sem, rs0_w4, rs1_w4]) rfl ⟨_, _, _, _, rfl, ?_, ?_, ne4.out, ?_⟩
  · refine OwnG.mono (B := w3.heap.size) ?_ (by have := as_W1.out; have := sz_W1.out; have := as_W2.out; have := sz_W2.out; have := sz_w3.out; have := sz_w4.out; omega)
    iterate 2 (with_reducible refine OwnG.grown ?_ (grown_cellG _ _ _ _) ?_; rotate_left; (focus (exact OwnG.ne_of oP_w4.out (by have := as_W1.out; have := sz_W1.out; have := as_W2.out; have := sz_W2.out; have := sz_w3.out; have := sz_w4.out; omega))))
    with_reducible exact oP_w4.out
  · refine OwnG.mono (B := w3.heap.size) ?_ (by have := as_W1.out; have := sz_W1.out; have := as_W2.out; have := sz_W2.out; have := sz_w3.out; have := sz_w4.out; omega)
    iterate 2 (with_reducible refine OwnG.grown ?_ (grown_cellG _ _ _ _) ?_; rotate_left; (focus (exact OwnG.ne_of oQ_w4.out (by have := as_W1.out; have := sz_W1.out; have := as_W2.out; have := sz_W2.out; have := sz_w3.out; have := sz_w4.out; omega))))
    with_reducible exact oQ_w4.out
  · repeat (with_reducible refine Below.setCell ?_ ?_ _; rotate_left; (focus (first | (simp; done) | (simp; omega) | (dsimp only; have := as_W1.out; have := sz_W1.out; have := as_W2.out; have := sz_W2.out; have := sz_w3.out; have := sz_w4.out; omega))))
    exact acc_w4.out

set_option maxRecDepth 10000 in
set_option maxHeartbeats 2000000 in
theorem iSt_nj (g h np nb : Nat) (ps bs : List Int) (w : World) (hnp : np = ps.length) (hnb : nb = bs.length) (hP : RowG KI w (some ⟨g, 0, none⟩) ps) (hK : RowG KI w (some ⟨h, 0, none⟩) bs) (hl : np ≤ 1048576) (hl' : nb ≤ 1048576) (hr : grB ps bs = true) (hj : nb = 0) :
    Calls Try.prog 28 #[.agg #[.slice (some ⟨g, 0, none⟩) np np, .slice (some ⟨h, 0, none⟩) nb nb]] w fun e w' => ∃ a c b d, e = .returned (.tuple #[.agg #[.slice a np c, .slice b nb d], .bool false]) ∧ OwnG KI 3 w' w.heap.size (.slice a np c) ps ∧ OwnG KI 3 w' w.heap.size (.slice b nb d) bs ∧ (∀ k, (Value.slice a np c).ownBlock = some k → (Value.slice b nb d).ownBlock ≠ some k) ∧ Below w.heap.size w w' := by
  have HOw := hidP (fun W h9 => ownGroup_any (some ⟨g, 0, none⟩) np np (some ⟨h, 0, none⟩) nb nb ps bs W hnp hnb (hP.later h9) (hK.later h9) hl hl')
  have HIm := hidP (fun W h9 => iGroupOk_any (some ⟨g, 0, none⟩) np np (some ⟨h, 0, none⟩) nb nb ps bs W hnp hnb (hP.later h9) (hK.later h9) hl hl')
  rw [hr] at HIm
  have HJn := hidP (fun W => isJoint_any (some ⟨g, 0, none⟩) np np (some ⟨h, 0, none⟩) nb nb W)
  have dj : decide (0 < nb) = false := decide_eq_false (by omega)
  have ej : ((nb : Int) == 0) = true := by simp [hj]
  rw [dj] at HJn
  have HZ := hidP hj
  clear hj dj
  clear hP hK hnp hnb hr
  go_enter Try.func28, Try.ntmps28
  go_wp2_with fail
  obtain ⟨bk0_W1, bk1_W1⟩ := box2D w 26 (.slice (some ⟨g, 0, none⟩) np np) (.slice (some ⟨h, 0, none⟩) nb nb)
  have bkF_W1 : ∀ o, (w.alloc (.cells #[.slice (some ⟨g, 0, none⟩) np np, .slice (some ⟨h, 0, none⟩) nb nb] 26)).frozen? ⟨w.heap.size, o, none⟩ = false := fun o => by simp [go_sem]
  have bkL_W1 : w.heap.size < (w.alloc (.cells #[.slice (some ⟨g, 0, none⟩) np np, .slice (some ⟨h, 0, none⟩) nb nb] 26)).heap.size := by simp
  have ab_W1 := alloc_below w (.cells #[.slice (some ⟨g, 0, none⟩) np np, .slice (some ⟨h, 0, none⟩) nb nb] 26)
  have as_W1 : Hid ((w.alloc (.cells #[.slice (some ⟨g, 0, none⟩) np np, .slice (some ⟨h, 0, none⟩) nb nb] 26)).heap.size = w.heap.size + 1) := hidP (by simp)
  generalize w.alloc (.cells #[.slice (some ⟨g, 0, none⟩) np np, .slice (some ⟨h, 0, none⟩) nb nb] 26) = W1 at *
  have acc_W1 := hidP (ab_W1)
  have sz_W1 : Hid (w.heap.size ≤ W1.heap.size) := hidP ab_W1.size
  clear ab_W1 
  obtain ⟨rs0_W2, rs1_W2⟩ := box2D W1 26 (.slice none 0 0) (.slice none 0 0)
  have rsF_W2 : ∀ o, (W1.alloc (.cells #[.slice none 0 0, .slice none 0 0] 26)).frozen? ⟨W1.heap.size, o, none⟩ = false := fun o => by simp [go_sem]
  have rsL_W2 : W1.heap.size < (W1.alloc (.cells #[.slice none 0 0, .slice none 0 0] 26)).heap.size := by simp
  have ab_W2 := alloc_below W1 (.cells #[.slice none 0 0, .slice none 0 0] 26)
  have as_W2 : Hid ((W1.alloc (.cells #[.slice none 0 0, .slice none 0 0] 26)).heap.size = W1.heap.size + 1) := hidP (by simp)
  generalize W1.alloc (.cells #[.slice none 0 0, .slice none 0 0] 26) = W2 at *
  have bk0_W2 := (ab_W2.cell bkL_W1).trans bk0_W1
  have bk1_W2 := (ab_W2.cell bkL_W1).trans bk1_W1
  have bkF_W2 : ∀ o, W2.frozen? ⟨w.heap.size, o, none⟩ = false := fun o => (ab_W2.frozen bkL_W1).trans (bkF_W1 o)
  have bkL_W2 : w.heap.size < W2.heap.size := Nat.lt_of_lt_of_le bkL_W1 ab_W2.size
  have acc_W2 := hidP (acc_W1.out.trans (ab_W2.mono acc_W1.out.size))
  have sz_W2 : Hid (W1.heap.size ≤ W2.heap.size) := hidP ab_W2.size
  clear ab_W2 bk0_W1 bk1_W1 bkF_W1 bkL_W1 acc_W1
  rw [as_W1.out] at rs0_W2 rs1_W2 rsL_W2
  have rsF_W2' : ∀ o, W2.frozen? ⟨w.heap.size + 1, o, none⟩ = false := fun o => by have := rsF_W2 o; rw [as_W1.out] at this; exact this
  clear rsF_W2
  have rsF_W2 := rsF_W2'
  clear rsF_W2'
  refine (HIm.out _ acc_W2.out).mono ?_
  rintro e w3 ⟨rfl, hb3⟩
  have bk0_w3 := (hb3.cell bkL_W2).trans bk0_W2
  have bk1_w3 := (hb3.cell bkL_W2).trans bk1_W2
  have bkF_w3 : ∀ o, w3.frozen? ⟨w.heap.size, o, none⟩ = false := fun o => (hb3.frozen bkL_W2).trans (bkF_W2 o)
  have bkL_w3 : w.heap.size < w3.heap.size := Nat.lt_of_lt_of_le bkL_W2 hb3.size
  have rs0_w3 := (hb3.cell rsL_W2).trans rs0_W2
  have rs1_w3 := (hb3.cell rsL_W2).trans rs1_W2
  have rsF_w3 : ∀ o, w3.frozen? ⟨w.heap.size + 1, o, none⟩ = false := fun o => (hb3.frozen rsL_W2).trans (rsF_W2 o)
  have rsL_w3 : w.heap.size + 1 < w3.heap.size := Nat.lt_of_lt_of_le rsL_W2 hb3.size
  have acc_w3 := hidP (acc_W2.out.trans (hb3.mono acc_W2.out.size))
  have sz_w3 : Hid (W2.heap.size ≤ w3.heap.size) := hidP hb3.size
  clear hb3 bk0_W2 bk1_W2 bkF_W2 bkL_W2 rs0_W2 rs1_W2 rsF_W2 rsL_W2 acc_W2
  go_wp2_with fail
  refine (HJn.out _).mono ?_
  rintro e wj ⟨rfl, hbj⟩
  have bk0_wj := (hbj.cell bkL_w3).trans bk0_w3
  have bk1_wj := (hbj.cell bkL_w3).trans bk1_w3
  have bkF_wj : ∀ o, wj.frozen? ⟨w.heap.size, o, none⟩ = false := fun o => (hbj.frozen bkL_w3).trans (bkF_w3 o)
  have bkL_wj : w.heap.size < wj.heap.size := Nat.lt_of_lt_of_le bkL_w3 hbj.size
  have rs0_wj := (hbj.cell rsL_w3).trans rs0_w3
  have rs1_wj := (hbj.cell rsL_w3).trans rs1_w3
  have rsF_wj : ∀ o, wj.frozen? ⟨w.heap.size + 1, o, none⟩ = false := fun o => (hbj.frozen rsL_w3).trans (rsF_w3 o)
  have rsL_wj : w.heap.size + 1 < wj.heap.size := Nat.lt_of_lt_of_le rsL_w3 hbj.size
  have acc_wj := hidP (acc_w3.out.trans (hbj.mono acc_w3.out.size))
  have sz_wj : Hid (w3.heap.size ≤ wj.heap.size) := hidP hbj.size
  clear hbj bk0_w3 bk1_w3 bkF_w3 bkL_w3 rs0_w3 rs1_w3 rsF_w3 rsL_w3 acc_w3
  go_wp2_with fail
  refine (HOw.out _ acc_wj.out).mono ?_
  rintro e w4 ⟨a4, c4, b4, d4, rfl, og4, oh4, nq4, hb4⟩
  have OX := hidP (And.intro og4 (And.intro oh4 nq4))
  clear og4 oh4 nq4
  have bk0_w4 := (hb4.cell bkL_wj).trans bk0_wj
  have bk1_w4 := (hb4.cell bkL_wj).trans bk1_wj
  have bkF_w4 : ∀ o, w4.frozen? ⟨w.heap.size, o, none⟩ = false := fun o => (hb4.frozen bkL_wj).trans (bkF_wj o)
  have bkL_w4 : w.heap.size < w4.heap.size := Nat.lt_of_lt_of_le bkL_wj hb4.size
  have rs0_w4 := (hb4.cell rsL_wj).trans rs0_wj
  have rs1_w4 := (hb4.cell rsL_wj).trans rs1_wj
  have rsF_w4 : ∀ o, w4.frozen? ⟨w.heap.size + 1, o, none⟩ = false := fun o => (hb4.frozen rsL_wj).trans (rsF_wj o)
  have rsL_w4 : w.heap.size + 1 < w4.heap.size := Nat.lt_of_lt_of_le rsL_wj hb4.size
  have acc_w4 := hidP (acc_wj.out.trans (hb4.mono acc_wj.out.size))
  have sz_w4 : Hid (wj.heap.size ≤ w4.heap.size) := hidP hb4.size
  clear hb4 bk0_wj bk1_wj bkF_wj bkL_wj rs0_wj rs1_wj rsF_wj rsL_wj acc_wj
  have oP_w4 := hidP (OX.out.1)
  have lhP : Hid (∀ k, (Value.slice a4 np c4).ownBlock = some k → wj.heap.size ≤ k ∧ k < w4.heap.size) := hidP (fun k hk => OwnG.lt oP_w4.out k hk)
  have oQ_w4 := hidP (OX.out.2.1)
  have lhQ : Hid (∀ k, (Value.slice b4 nb d4).ownBlock = some k → wj.heap.size ≤ k ∧ k < w4.heap.size) := hidP (fun k hk => OwnG.lt oQ_w4.out k hk)
  have ne4 := hidP OX.out.2.2
  clear OX
  go_wp2_with fail
  refine bodyPost_ret (v := .tuple #[.agg #[.slice a4 np c4, .slice b4 nb d4], .bool false]) (by simp [results, Try.results28, go_sem, rs0_w4, rs1_w4]) rfl ⟨_, _, _, _, rfl, ?_, ?_, ne4.out, ?_⟩
  · refine OwnG.mono (B := wj.heap.size) ?_ (by have := as_W1.out; have := sz_W1.out; have := as_W2.out; have := sz_W2.out; have := sz_w3.out; have := sz_wj.out; have := sz_w4.out; omega)
    iterate 2 (with_reducible refine OwnG.grown ?_ (grown_cellG _ _ _ _) ?_; rotate_left; (focus (exact OwnG.ne_of oP_w4.out (by have := as_W1.out; have := sz_W1.out; have := as_W2.out; have := sz_W2.out; have := sz_w3.out; have := sz_wj.out; have := sz_w4.out; omega))))
    with_reducible exact oP_w4.out
  · refine OwnG.mono (B := wj.heap.size) ?_ (by have := as_W1.out; have := sz_W1.out; have := as_W2.out; have := sz_W2.out; have := sz_w3.out; have := sz_wj.out; have := sz_w4.out; omega)
    iterate 2 (with_reducible refine OwnG.grown ?_ (grown_cellG _ _ _ _) ?_; rotate_left; (focus (exact OwnG.ne_of oQ_w4.out (by have := as_W1.out; have := sz_W1.out; have := as_W2.out; have := sz_W2.out; have := sz_w3.out; have := sz_wj.out; have := sz_w4.out; omega))))
    with_reducible exact oQ_w4.out
  · repeat (with_reducible refine Below.setCell ?_ ?_ _; rotate_left; (focus (first | (simp; done) | (simp; omega) | (dsimp only; have := as_W1.out; have := sz_W1.out; have := as_W2.out; have := sz_W2.out; have := sz_w3.out; have := sz_wj.out; have := sz_w4.out; omega))))
    exact acc_w4.out

set_option maxRecDepth 10000 in
set_option maxHeartbeats 2000000 in
theorem iSt_yes (g h np nb : Nat) (ps bs : List Int) (w : World) (hnp : np = ps.length) (hnb : nb = bs.length) (hP : RowG KI w (some ⟨g, 0, none⟩) ps) (hK : RowG KI w (some ⟨h, 0, none⟩) bs) (hl : np ≤ 1048576) (hl' : nb ≤ 1048576) (hr : grB ps bs = true) (hj : 0 < nb) :
    Calls Try.prog 28 #[.agg #[.slice (some ⟨g, 0, none⟩) np np, .slice (some ⟨h, 0, none⟩) nb nb]] w fun e w' => ∃ a c b d, e = .returned (.tuple #[.agg #[.slice a nb c, .slice b 0 d], .bool true]) ∧ OwnG KI 3 w' w.heap.size (.slice a nb c) bs ∧ OwnG KI 3 w' w.heap.size (.slice b 0 d) [] ∧ (∀ k, (Value.slice a nb c).ownBlock = some k → (Value.slice b 0 d).ownBlock ≠ some k) ∧ Below w.heap.size w w' := by
  have HOw := hidP (fun W h9 => ownGroup_any (some ⟨h, 0, none⟩) nb nb none 0 0 bs [] W hnb rfl (hK.later h9) (RowG.nil _ _ _) hl' (by omega))
  have HIm := hidP (fun W h9 => iGroupOk_any (some ⟨g, 0, none⟩) np np (some ⟨h, 0, none⟩) nb nb ps bs W hnp hnb (hP.later h9) (hK.later h9) hl hl')
  rw [hr] at HIm
  have HJn := hidP (fun W => isJoint_any (some ⟨g, 0, none⟩) np np (some ⟨h, 0, none⟩) nb nb W)
  have dj : decide (0 < nb) = true := decide_eq_true (by omega)
  have ej : ((nb : Int) == 0) = false := by simp; omega
  rw [dj] at HJn
  clear dj
  clear hP hK hnp hnb hr
  go_enter Try.func28, Try.ntmps28
  go_wp2_with fail
  obtain ⟨bk0_W1, bk1_W1⟩ := box2D w 26 (.slice (some ⟨g, 0, none⟩) np np) (.slice (some ⟨h, 0, none⟩) nb nb)
  have bkF_W1 : ∀ o, (w.alloc (.cells #[.slice (some ⟨g, 0, none⟩) np np, .slice (some ⟨h, 0, none⟩) nb nb] 26)).frozen? ⟨w.heap.size, o, none⟩ = false := fun o => by simp [go_sem]
  have bkL_W1 : w.heap.size < (w.alloc (.cells #[.slice (some ⟨g, 0, none⟩) np np, .slice (some ⟨h, 0, none⟩) nb nb] 26)).heap.size := by simp
  have ab_W1 := alloc_below w (.cells #[.slice (some ⟨g, 0, none⟩) np np, .slice (some ⟨h, 0, none⟩) nb nb] 26)
  have as_W1 : Hid ((w.alloc (.cells #[.slice (some ⟨g, 0, none⟩) np np, .slice (some ⟨h, 0, none⟩) nb nb] 26)).heap.size = w.heap.size + 1) := hidP (by simp)
  generalize w.alloc (.cells #[.slice (some ⟨g, 0, none⟩) np np, .slice (some ⟨h, 0, none⟩) nb nb] 26) = W1 at *
  have acc_W1 := hidP (ab_W1)
  have sz_W1 : Hid (w.heap.size ≤ W1.heap.size) := hidP ab_W1.size
  clear ab_W1 
  obtain ⟨rs0_W2, rs1_W2⟩ := box2D W1 26 (.slice none 0 0) (.slice none 0 0)
  have rsF_W2 : ∀ o, (W1.alloc (.cells #[.slice none 0 0, .slice none 0 0] 26)).frozen? ⟨W1.heap.size, o, none⟩ = false := fun o => by simp [go_sem]
  have rsL_W2 : W1.heap.size < (W1.alloc (.cells #[.slice none 0 0, .slice none 0 0] 26)).heap.size := by simp
  have ab_W2 := alloc_below W1 (.cells #[.slice none 0 0, .slice none 0 0] 26)
  have as_W2 : Hid ((W1.alloc (.cells #[.slice none 0 0, .slice none 0 0] 26)).heap.size = W1.heap.size + 1) := hidP (by simp)
  generalize W1.alloc (.cells #[.slice none 0 0, .slice none 0 0] 26) = W2 at *
  have bk0_W2 := (ab_W2.cell bkL_W1).trans bk0_W1
  have bk1_W2 := (ab_W2.cell bkL_W1).trans bk1_W1
  have bkF_W2 : ∀ o, W2.frozen? ⟨w.heap.size, o, none⟩ = false := fun o => (ab_W2.frozen bkL_W1).trans (bkF_W1 o)
  have bkL_W2 : w.heap.size < W2.heap.size := Nat.lt_of_lt_of_le bkL_W1 ab_W2.size
  have acc_W2 := hidP (acc_W1.out.trans (ab_W2.mono acc_W1.out.size))
  have sz_W2 : Hid (W1.heap.size ≤ W2.heap.size) := hidP ab_W2.size
  clear ab_W2 bk0_W1 bk1_W1 bkF_W1 bkL_W1 acc_W1
  rw [as_W1.out] at rs0_W2 rs1_W2 rsL_W2
  have rsF_W2' : ∀ o, W2.frozen? ⟨w.heap.size + 1, o, none⟩ = false := fun o => by have := rsF_W2 o; rw [as_W1.out] at this; exact this
  clear rsF_W2
  have rsF_W2 := rsF_W2'
  clear rsF_W2'
  refine (HIm.out _ acc_W2.out).mono ?_
  rintro e w3 ⟨rfl, hb3⟩
  have bk0_w3 := (hb3.cell bkL_W2).trans bk0_W2
  have bk1_w3 := (hb3.cell bkL_W2).trans bk1_W2
  have bkF_w3 : ∀ o, w3.frozen? ⟨w.heap.size, o, none⟩ = false := fun o => (hb3.frozen bkL_W2).trans (bkF_W2 o)
  have bkL_w3 : w.heap.size < w3.heap.size := Nat.lt_of_lt_of_le bkL_W2 hb3.size
  have rs0_w3 := (hb3.cell rsL_W2).trans rs0_W2
  have rs1_w3 := (hb3.cell rsL_W2).trans rs1_W2
  have rsF_w3 : ∀ o, w3.frozen? ⟨w.heap.size + 1, o, none⟩ = false := fun o => (hb3.frozen rsL_W2).trans (rsF_W2 o)
  have rsL_w3 : w.heap.size + 1 < w3.heap.size := Nat.lt_of_lt_of_le rsL_W2 hb3.size
  have acc_w3 := hidP (acc_W2.out.trans (hb3.mono acc_W2.out.size))
  have sz_w3 : Hid (W2.heap.size ≤ w3.heap.size) := hidP hb3.size
  clear hb3 bk0_W2 bk1_W2 bkF_W2 bkL_W2 rs0_W2 rs1_W2 rsF_W2 rsL_W2 acc_W2
  go_wp2_with fail
  refine (HJn.out _).mono ?_
  rintro e wj ⟨rfl, hbj⟩
  have bk0_wj := (hbj.cell bkL_w3).trans bk0_w3
  have bk1_wj := (hbj.cell bkL_w3).trans bk1_w3
  have bkF_wj : ∀ o, wj.frozen? ⟨w.heap.size, o, none⟩ = false := fun o => (hbj.frozen bkL_w3).trans (bkF_w3 o)
  have bkL_wj : w.heap.size < wj.heap.size := Nat.lt_of_lt_of_le bkL_w3 hbj.size
  have rs0_wj := (hbj.cell rsL_w3).trans rs0_w3
  have rs1_wj := (hbj.cell rsL_w3).trans rs1_w3
  have rsF_wj : ∀ o, wj.frozen? ⟨w.heap.size + 1, o, none⟩ = false := fun o => (hbj.frozen rsL_w3).trans (rsF_w3 o)
  have rsL_wj : w.heap.size + 1 < wj.heap.size := Nat.lt_of_lt_of_le rsL_w3 hbj.size
  have acc_wj := hidP (acc_w3.out.trans (hbj.mono acc_w3.out.size))
  have sz_wj : Hid (w3.heap.size ≤ wj.heap.size) := hidP hbj.size
  clear hbj bk0_w3 bk1_w3 bkF_w3 bkL_w3 rs0_w3 rs1_w3 rsF_w3 rsL_w3 acc_w3
  go_wp2_with fail
  refine (HOw.out _ acc_wj.out).mono ?_
  rintro e w4 ⟨a4, c4, b4, d4, rfl, og4, oh4, nq4, hb4⟩
  have OX := hidP (And.intro og4 (And.intro oh4 nq4))
  clear og4 oh4 nq4
  have bk0_w4 := (hb4.cell bkL_wj).trans bk0_wj
  have bk1_w4 := (hb4.cell bkL_wj).trans bk1_wj
  have bkF_w4 : ∀ o, w4.frozen? ⟨w.heap.size, o, none⟩ = false := fun o => (hb4.frozen bkL_wj).trans (bkF_wj o)
  have bkL_w4 : w.heap.size < w4.heap.size := Nat.lt_of_lt_of_le bkL_wj hb4.size
  have rs0_w4 := (hb4.cell rsL_wj).trans rs0_wj
  have rs1_w4 := (hb4.cell rsL_wj).trans rs1_wj
  have rsF_w4 : ∀ o, w4.frozen? ⟨w.heap.size + 1, o, none⟩ = false := fun o => (hb4.frozen rsL_wj).trans (rsF_wj o)
  have rsL_w4 : w.heap.size + 1 < w4.heap.size := Nat.lt_of_lt_of_le rsL_wj hb4.size
  have acc_w4 := hidP (acc_wj.out.trans (hb4.mono acc_wj.out.size))
  have sz_w4 : Hid (wj.heap.size ≤ w4.heap.size) := hidP hb4.size
  clear hb4 bk0_wj bk1_wj bkF_wj bkL_wj rs0_wj rs1_wj rsF_wj rsL_wj acc_wj
  have oP_w4 := hidP (OX.out.1)
  have lhP : Hid (∀ k, (Value.slice a4 nb c4).ownBlock = some k → wj.heap.size ≤ k ∧ k < w4.heap.size) := hidP (fun k hk => OwnG.lt oP_w4.out k hk)
  have oQ_w4 := hidP (OX.out.2.1)
  have lhQ : Hid (∀ k, (Value.slice b4 0 d4).ownBlock = some k → wj.heap.size ≤ k ∧ k < w4.heap.size) := hidP (fun k hk => OwnG.lt oQ_w4.out k hk)
  have ne4 := hidP OX.out.2.2
  clear OX
  go_wp2_with fail
  refine bodyPost_ret (v := .tuple #[.agg #[.slice a4 nb c4, .slice b4 0 d4], .bool true]) (by simp [results, Try.results28, go_sem, rs0_w4, rs1_w4]) rfl ⟨_, _, _, _, rfl, ?_, ?_, ne4.out, ?_⟩
  · refine OwnG.mono (B := wj.heap.size) ?_ (by have := as_W1.out; have := sz_W1.out; have := as_W2.out; have := sz_W2.out; have := sz_w3.out; have := sz_wj.out; have := sz_w4.out; omega)
    iterate 2 (with_reducible refine OwnG.grown ?_ (grown_cellG _ _ _ _) ?_; rotate_left; (focus (exact OwnG.ne_of oP_w4.out (by have := as_W1.out; have := sz_W1.out; have := as_W2.out; have := sz_W2.out; have := sz_w3.out; have := sz_wj.out; have := sz_w4.out; omega))))
    with_reducible exact oP_w4.out
  · refine OwnG.mono (B := wj.heap.size) ?_ (by have := as_W1.out; have := sz_W1.out; have := as_W2.out; have := sz_W2.out; have := sz_w3.out; have := sz_wj.out; have := sz_w4.out; omega)
    iterate 2 (with_reducible refine OwnG.grown ?_ (grown_cellG _ _ _ _) ?_; rotate_left; (focus (exact OwnG.ne_of oQ_w4.out (by have := as_W1.out; have := sz_W1.out; have := as_W2.out; have := sz_W2.out; have := sz_w3.out; have := sz_wj.out; have := sz_w4.out; omega))))
    with_reducible exact oQ_w4.out
  · repeat (with_reducible refine Below.setCell ?_ ?_ _; rotate_left; (focus (first | (simp; done) | (simp; omega) | (dsimp only; have := as_W1.out; have := sz_W1.out; have := as_W2.out; have := sz_W2.out; have := sz_w3.out; have := sz_wj.out; have := sz_w4.out; omega))))
    exact acc_w4.out

set_option maxRecDepth 10000 in
set_option maxHeartbeats 2000000 in
theorem sSt_no (g h np nb : Nat) (ps bs : List Int) (w : World) (hnp : np = ps.length) (hnb : nb = bs.length) (hP : RowG KI w (some ⟨g, 0, none⟩) ps) (hK : RowG KI w (some ⟨h, 0, none⟩) bs) (hl : np ≤ 1048576) (hl' : nb ≤ 1048576) (hr : grB ps bs = false) :
    Calls Try.prog 27 #[.agg #[.slice (some ⟨g, 0, none⟩) np np, .slice (some ⟨h, 0, none⟩) nb nb]] w fun e w' => ∃ a c b d, e = .returned (.tuple #[.agg #[.slice a np c, .slice b nb d], .bool false]) ∧ OwnG KI 3 w' w.heap.size (.slice a np c) ps ∧ OwnG KI 3 w' w.heap.size (.slice b nb d) bs ∧ (∀ k, (Value.slice a np c).ownBlock = some k → (Value.slice b nb d).ownBlock ≠ some k) ∧ Below w.heap.size w w' := by
  have HOw := hidP (fun W h9 => l12Copy_any (some ⟨g, 0, none⟩) np np (some ⟨h, 0, none⟩) nb nb ps bs W hnp hnb (hP.later h9) (hK.later h9) (fun h => by cases h) (fun h => by cases h) hl hl')
  have HIm := hidP (fun W h9 => sGroupOk_any (some ⟨g, 0, none⟩) np np (some ⟨h, 0, none⟩) nb nb ps bs W hnp hnb (hP.later h9) (hK.later h9) hl hl')
  rw [hr] at HIm
  clear hP hK hnp hnb hr
  go_enter Try.func27, Try.ntmps27
  go_wp2_with fail
  obtain ⟨bk0_W1, bk1_W1⟩ := box2D w 26 (.slice (some ⟨g, 0, none⟩) np np) (.slice (some ⟨h, 0, none⟩) nb nb)
  have bkF_W1 : ∀ o, (w.alloc (.cells #[.slice (some ⟨g, 0, none⟩) np np, .slice (some ⟨h, 0, none⟩) nb nb] 26)).frozen? ⟨w.heap.size, o, none⟩ = false := fun o => by simp [go_sem]
  have bkL_W1 : w.heap.size < (w.alloc (.cells #[.slice (some ⟨g, 0, none⟩) np np, .slice (some ⟨h, 0, none⟩) nb nb] 26)).heap.size := by simp
  have ab_W1 := alloc_below w (.cells #[.slice (some ⟨g, 0, none⟩) np np, .slice (some ⟨h, 0, none⟩) nb nb] 26)
  have as_W1 : Hid ((w.alloc (.cells #[.slice (some ⟨g, 0, none⟩) np np, .slice (some ⟨h, 0, none⟩) nb nb] 26)).heap.size = w.heap.size + 1) := hidP (by simp)
  generalize w.alloc (.cells #[.slice (some ⟨g, 0, none⟩) np np, .slice (some ⟨h, 0, none⟩) nb nb] 26) = W1 at *
  have acc_W1 := hidP (ab_W1)
  have sz_W1 : Hid (w.heap.size ≤ W1.heap.size) := hidP ab_W1.size
  clear ab_W1 
  obtain ⟨rs0_W2, rs1_W2⟩ := box2D W1 26 (.slice none 0 0) (.slice none 0 0)
  have rsF_W2 : ∀ o, (W1.alloc (.cells #[.slice none 0 0, .slice none 0 0] 26)).frozen? ⟨W1.heap.size, o, none⟩ = false := fun o => by simp [go_sem]
  have rsL_W2 : W1.heap.size < (W1.alloc (.cells #[.slice none 0 0, .slice none 0 0] 26)).heap.size := by simp
  have ab_W2 := alloc_below W1 (.cells #[.slice none 0 0, .slice none 0 0] 26)
  have as_W2 : Hid ((W1.alloc (.cells #[.slice none 0 0, .slice none 0 0] 26)).heap.size = W1.heap.size + 1) := hidP (by simp)
  generalize W1.alloc (.cells #[.slice none 0 0, .slice none 0 0] 26) = W2 at *
  have bk0_W2 := (ab_W2.cell bkL_W1).trans bk0_W1
  have bk1_W2 := (ab_W2.cell bkL_W1).trans bk1_W1
  have bkF_W2 : ∀ o, W2.frozen? ⟨w.heap.size, o, none⟩ = false := fun o => (ab_W2.frozen bkL_W1).trans (bkF_W1 o)
  have bkL_W2 : w.heap.size < W2.heap.size := Nat.lt_of_lt_of_le bkL_W1 ab_W2.size
  have acc_W2 := hidP (acc_W1.out.trans (ab_W2.mono acc_W1.out.size))
  have sz_W2 : Hid (W1.heap.size ≤ W2.heap.size) := hidP ab_W2.size
  clear ab_W2 bk0_W1 bk1_W1 bkF_W1 bkL_W1 acc_W1
  rw [as_W1.out] at rs0_W2 rs1_W2 rsL_W2
  have rsF_W2' : ∀ o, W2.frozen? ⟨w.heap.size + 1, o, none⟩ = false := fun o => by have := rsF_W2 o; rw [as_W1.out] at this; exact this
  clear rsF_W2
  have rsF_W2 := rsF_W2'
  clear rsF_W2'
  refine (HIm.out _ acc_W2.out).mono ?_
  rintro e w3 ⟨rfl, hb3⟩
  have bk0_w3 := (hb3.cell bkL_W2).trans bk0_W2
  have bk1_w3 := (hb3.cell bkL_W2).trans bk1_W2
  have bkF_w3 : ∀ o, w3.frozen? ⟨w.heap.size, o, none⟩ = false := fun o => (hb3.frozen bkL_W2).trans (bkF_W2 o)
  have bkL_w3 : w.heap.size < w3.heap.size := Nat.lt_of_lt_of_le bkL_W2 hb3.size
  have rs0_w3 := (hb3.cell rsL_W2).trans rs0_W2
  have rs1_w3 := (hb3.cell rsL_W2).trans rs1_W2
  have rsF_w3 : ∀ o, w3.frozen? ⟨w.heap.size + 1, o, none⟩ = false := fun o => (hb3.frozen rsL_W2).trans (rsF_W2 o)
  have rsL_w3 : w.heap.size + 1 < w3.heap.size := Nat.lt_of_lt_of_le rsL_W2 hb3.size
  have acc_w3 := hidP (acc_W2.out.trans (hb3.mono acc_W2.out.size))
  have sz_w3 : Hid (W2.heap.size ≤ w3.heap.size) := hidP hb3.size
  clear hb3 bk0_W2 bk1_W2 bkF_W2 bkL_W2 rs0_W2 rs1_W2 rsF_W2 rsL_W2 acc_W2
  go_wp2_with fail
  refine (HOw.out _ acc_w3.out).mono ?_
  rintro e w4 ⟨a4, c4, b4, d4, rfl, og4, oh4, nq4, hb4⟩
  have OX := hidP (And.intro og4 (And.intro oh4 nq4))
  clear og4 oh4 nq4
  have bk0_w4 := (hb4.cell bkL_w3).trans bk0_w3
  have bk1_w4 := (hb4.cell bkL_w3).trans bk1_w3
  have bkF_w4 : ∀ o, w4.frozen? ⟨w.heap.size, o, none⟩ = false := fun o => (hb4.frozen bkL_w3).trans (bkF_w3 o)
  have bkL_w4 : w.heap.size < w4.heap.size := Nat.lt_of_lt_of_le bkL_w3 hb4.size
  have rs0_w4 := (hb4.cell rsL_w3).trans rs0_w3
  have rs1_w4 := (hb4.cell rsL_w3).trans rs1_w3
  have rsF_w4 : ∀ o, w4.frozen? ⟨w.heap.size + 1, o, none⟩ = false := fun o => (hb4.frozen rsL_w3).trans (rsF_w3 o)
  have rsL_w4 : w.heap.size + 1 < w4.heap.size := Nat.lt_of_lt_of_le rsL_w3 hb4.size
  have acc_w4 := hidP (acc_w3.out.trans (hb4.mono acc_w3.out.size))
  have sz_w4 : Hid (w3.heap.size ≤ w4.heap.size) := hidP hb4.size
  clear hb4 bk0_w3 bk1_w3 bkF_w3 bkL_w3 rs0_w3 rs1_w3 rsF_w3 rsL_w3 acc_w3
  have oP_w4 := hidP (OX.out.1)
  have lhP : Hid (∀ k, (Value.slice a4 np c4).ownBlock = some k → w3.heap.size ≤ k ∧ k < w4.heap.size) := hidP (fun k hk => OwnG.lt oP_w4.out k hk)
  have oQ_w4 := hidP (OX.out.2.1)
  have lhQ : Hid (∀ k, (Value.slice b4 nb d4).ownBlock = some k → w3.heap.size ≤ k ∧ k < w4.heap.size) := hidP (fun k hk => OwnG.lt oQ_w4.out k hk)
  have ne4 := hidP OX.out.2.2
  clear OX
  go_wp2_with fail
  refine bodyPost_ret (v := .tuple #[.agg #[.slice a4 np c4, .slice b4 nb d4], .bool false]) (by simp [results, Try.results27, go_sem, rs0_w4, rs1_w4]) rfl ⟨_, _, _, _, rfl, ?_, ?_, ne4.out, ?_⟩
  · refine OwnG.mono (B := w3.heap.size) ?_ (by have := as_W1.out; have := sz_W1.out; have := as_W2.out; have := sz_W2.out; have := sz_w3.out; have := sz_w4.out; omega)
    iterate 2 (with_reducible refine OwnG.grown ?_ (grown_cellG _ _ _ _) ?_; rotate_left; (focus (exact OwnG.ne_of oP_w4.out (by have := as_W1.out; have := sz_W1.out; have := as_W2.out; have := sz_W2.out; have := sz_w3.out; have := sz_w4.out; omega))))
    with_reducible exact oP_w4.out
  · refine OwnG.mono (B := w3.heap.size) ?_ (by have := as_W1.out; have := sz_W1.out; have := as_W2.out; have := sz_W2.out; have := sz_w3.out; have := sz_w4.out; omega)
    iterate 2 (with_reducible refine OwnG.grown ?_ (grown_cellG _ _ _ _) ?_; rotate_left; (focus (exact OwnG.ne_of oQ_w4.out (by have := as_W1.out; have := sz_W1.out; have := as_W2.out; have := sz_W2.out; have := sz_w3.out; have := sz_w4.out; omega))))
    with_reducible exact oQ_w4.out
  · repeat (with_reducible refine Below.setCell ?_ ?_ _; rotate_left; (focus (first | (simp; done) | (simp; omega) | (dsimp only; have := as_W1.out; have := sz_W1.out; have := as_W2.out; have := sz_W2.out; have := sz_w3.out; have := sz_w4.out; omega))))
    exact acc_w4.out

set_option maxRecDepth 10000 in
set_option maxHeartbeats 2000000 in
theorem sSt_nj (g h np nb : Nat) (ps bs : List Int) (w : World) (hnp : np = ps.length) (hnb : nb = bs.length) (hP : RowG KI w (some ⟨g, 0, none⟩) ps) (hK : RowG KI w (some ⟨h, 0, none⟩) bs) (hl : np ≤ 1048576) (hl' : nb ≤ 1048576) (hr : grB ps bs = true) (hj : nb = 0) :
    Calls Try.prog 27 #[.agg #[.slice (some ⟨g, 0, none⟩) np np, .slice (some ⟨h, 0, none⟩) nb nb]] w fun e w' => ∃ a c b d, e = .returned (.tuple #[.agg #[.slice a np c, .slice b nb d], .bool false]) ∧ OwnG KI 3 w' w.heap.size (.slice a np c) ps ∧ OwnG KI 3 w' w.heap.size (.slice b nb d) bs ∧ (∀ k, (Value.slice a np c).ownBlock = some k → (Value.slice b nb d).ownBlock ≠ some k) ∧ Below w.heap.size w w' := by
  have HOw := hidP (fun W h9 => l12Copy_any (some ⟨g, 0, none⟩) np np (some ⟨h, 0, none⟩) nb nb ps bs W hnp hnb (hP.later h9) (hK.later h9) (fun h => by cases h) (fun h => by cases h) hl hl')
  have HIm := hidP (fun W h9 => sGroupOk_any (some ⟨g, 0, none⟩) np np (some ⟨h, 0, none⟩) nb nb ps bs W hnp hnb (hP.later h9) (hK.later h9) hl hl')
  rw [hr] at HIm
  have dj : decide (0 < nb) = false := decide_eq_false (by omega)
  have ej : ((nb : Int) == 0) = true := by simp [hj]
  have HZ := hidP hj
  clear hj dj
  clear hP hK hnp hnb hr
  go_enter Try.func27, Try.ntmps27
  go_wp2_with fail
  obtain ⟨bk0_W1, bk1_W1⟩ := box2D w 26 (.slice (some ⟨g, 0, none⟩) np np) (.slice (some ⟨h, 0, none⟩) nb nb)
  have bkF_W1 : ∀ o, (w.alloc (.cells #[.slice (some ⟨g, 0, none⟩) np np, .slice (some ⟨h, 0, none⟩) nb nb] 26)).frozen? ⟨w.heap.size, o, none⟩ = false := fun o => by simp [go_sem]
  have bkL_W1 : w.heap.size < (w.alloc (.cells #[.slice (some ⟨g, 0, none⟩) np np, .slice (some ⟨h, 0, none⟩) nb nb] 26)).heap.size := by simp
  have ab_W1 := alloc_below w (.cells #[.slice (some ⟨g, 0, none⟩) np np, .slice (some ⟨h, 0, none⟩) nb nb] 26)
  have as_W1 : Hid ((w.alloc (.cells #[.slice (some ⟨g, 0, none⟩) np np, .slice (some ⟨h, 0, none⟩) nb nb] 26)).heap.size = w.heap.size + 1) := hidP (by simp)
  generalize w.alloc (.cells #[.slice (some ⟨g, 0, none⟩) np np, .slice (some ⟨h, 0, none⟩) nb nb] 26) = W1 at *
  have acc_W1 := hidP (ab_W1)
  have sz_W1 : Hid (w.heap.size ≤ W1.heap.size) := hidP ab_W1.size
  clear ab_W1 
  obtain ⟨rs0_W2, rs1_W2⟩ := box2D W1 26 (.slice none 0 0) (.slice none 0 0)
  have rsF_W2 : ∀ o, (W1.alloc (.cells #[.slice none 0 0, .slice none 0 0] 26)).frozen? ⟨W1.heap.size, o, none⟩ = false := fun o => by simp [go_sem]
  have rsL_W2 : W1.heap.size < (W1.alloc (.cells #[.slice none 0 0, .slice none 0 0] 26)).heap.size := by simp
  have ab_W2 := alloc_below W1 (.cells #[.slice none 0 0, .slice none 0 0] 26)
  have as_W2 : Hid ((W1.alloc (.cells #[.slice none 0 0, .slice none 0 0] 26)).heap.size = W1.heap.size + 1) := hidP (by simp)
  generalize W1.alloc (.cells #[.slice none 0 0, .slice none 0 0] 26) = W2 at *
  have bk0_W2 := (ab_W2.cell bkL_W1).trans bk0_W1
  have bk1_W2 := (ab_W2.cell bkL_W1).trans bk1_W1
  have bkF_W2 : ∀ o, W2.frozen? ⟨w.heap.size, o, none⟩ = false := fun o => (ab_W2.frozen bkL_W1).trans (bkF_W1 o)
  have bkL_W2 : w.heap.size < W2.heap.size := Nat.lt_of_lt_of_le bkL_W1 ab_W2.size
  have acc_W2 := hidP (acc_W1.out.trans (ab_W2.mono acc_W1.out.size))
  have sz_W2 : Hid (W1.heap.size ≤ W2.heap.size) := hidP ab_W2.size
  clear ab_W2 bk0_W1 bk1_W1 bkF_W1 bkL_W1 acc_W1
  rw [as_W1.out] at rs0_W2 rs1_W2 rsL_W2
  have rsF_W2' : ∀ o, W2.frozen? ⟨w.heap.size + 1, o, none⟩ = false := fun o => by have := rsF_W2 o; rw [as_W1.out] at this; exact this
  clear rsF_W2
  have rsF_W2 := rsF_W2'
  clear rsF_W2'
  refine (HIm.out _ acc_W2.out).mono ?_
  rintro e w3 ⟨rfl, hb3⟩
  have bk0_w3 := (hb3.cell bkL_W2).trans bk0_W2
  have bk1_w3 := (hb3.cell bkL_W2).trans bk1_W2
  have bkF_w3 : ∀ o, w3.frozen? ⟨w.heap.size, o, none⟩ = false := fun o => (hb3.frozen bkL_W2).trans (bkF_W2 o)
  have bkL_w3 : w.heap.size < w3.heap.size := Nat.lt_of_lt_of_le bkL_W2 hb3.size
  have rs0_w3 := (hb3.cell rsL_W2).trans rs0_W2
  have rs1_w3 := (hb3.cell rsL_W2).trans rs1_W2
  have rsF_w3 : ∀ o, w3.frozen? ⟨w.heap.size + 1, o, none⟩ = false := fun o => (hb3.frozen rsL_W2).trans (rsF_W2 o)
  have rsL_w3 : w.heap.size + 1 < w3.heap.size := Nat.lt_of_lt_of_le rsL_W2 hb3.size
  have acc_w3 := hidP (acc_W2.out.trans (hb3.mono acc_W2.out.size))
  have sz_w3 : Hid (W2.heap.size ≤ w3.heap.size) := hidP hb3.size
  clear hb3 bk0_W2 bk1_W2 bkF_W2 bkL_W2 rs0_W2 rs1_W2 rsF_W2 rsL_W2 acc_W2
  go_wp2_with fail
  refine (HOw.out _ acc_w3.out).mono ?_
  rintro e w4 ⟨a4, c4, b4, d4, rfl, og4, oh4, nq4, hb4⟩
  have OX := hidP (And.intro og4 (And.intro oh4 nq4))
  clear og4 oh4 nq4
  have bk0_w4 := (hb4.cell bkL_w3).trans bk0_w3
  have bk1_w4 := (hb4.cell bkL_w3).trans bk1_w3
  have bkF_w4 : ∀ o, w4.frozen? ⟨w.heap.size, o, none⟩ = false := fun o => (hb4.frozen bkL_w3).trans (bkF_w3 o)
  have bkL_w4 : w.heap.size < w4.heap.size := Nat.lt_of_lt_of_le bkL_w3 hb4.size
  have rs0_w4 := (hb4.cell rsL_w3).trans rs0_w3
  have rs1_w4 := (hb4.cell rsL_w3).trans rs1_w3
  have rsF_w4 : ∀ o, w4.frozen? ⟨w.heap.size + 1, o, none⟩ = false := fun o => (hb4.frozen rsL_w3).trans (rsF_w3 o)
  have rsL_w4 : w.heap.size + 1 < w4.heap.size := Nat.lt_of_lt_of_le rsL_w3 hb4.size
  have acc_w4 := hidP (acc_w3.out.trans (hb4.mono acc_w3.out.size))
  have sz_w4 : Hid (w3.heap.size ≤ w4.heap.size) := hidP hb4.size
  clear hb4 bk0_w3 bk1_w3 bkF_w3 bkL_w3 rs0_w3 rs1_w3 rsF_w3 rsL_w3 acc_w3
  have oP_w4 := hidP (OX.out.1)
  have lhP : Hid (∀ k, (Value.slice a4 np c4).ownBlock = some k → w3.heap.size ≤ k ∧ k < w4.heap.size) := hidP (fun k hk => OwnG.lt oP_w4.out k hk)
  have oQ_w4 := hidP (OX.out.2.1)
  have lhQ : Hid (∀ k, (Value.slice b4 nb d4).ownBlock = some k → w3.heap.size ≤ k ∧ k < w4.heap.size) := hidP (fun k hk => OwnG.lt oQ_w4.out k hk)
  have ne4 := hidP OX.out.2.2
  clear OX
  go_wp2_with fail
  refine bodyPost_ret (v := .tuple #[.agg #[.slice a4 np c4, .slice b4 nb d4], .bool false]) (by simp [results, Try.results27, go_sem, rs0_w4, rs1_w4]) rfl ⟨_, _, _, _, rfl, ?_, ?_, ne4.out, ?_⟩
  · refine OwnG.mono (B := w3.heap.size) ?_ (by have := as_W1.out; have := sz_W1.out; have := as_W2.out; have := sz_W2.out; have := sz_w3.out; have := sz_w4.out; omega)
    iterate 2 (with_reducible refine OwnG.grown ?_ (grown_cellG _ _ _ _) ?_; rotate_left; (focus (exact OwnG.ne_of oP_w4.out (by have := as_W1.out; have := sz_W1.out; have := as_W2.out; have := sz_W2.out; have := sz_w3.out; have := sz_w4.out; omega))))
    with_reducible exact oP_w4.out
  · refine OwnG.mono (B := w3.heap.size) ?_ (by have := as_W1.out; have := sz_W1.out; have := as_W2.out; have := sz_W2.out; have := sz_w3.out; have := sz_w4.out; omega)
    iterate 2 (with_reducible refine OwnG.grown ?_ (grown_cellG _ _ _ _) ?_; rotate_left; (focus (exact OwnG.ne_of oQ_w4.out (by have := as_W1.out; have := sz_W1.out; have := as_W2.out; have := sz_W2.out; have := sz_w3.out; have := sz_w4.out; omega))))
    with_reducible exact oQ_w4.out
  · repeat (with_reducible refine Below.setCell ?_ ?_ _; rotate_left; (focus (first | (simp; done) | (simp; omega) | (dsimp only; have := as_W1.out; have := sz_W1.out; have := as_W2.out; have := sz_W2.out; have := sz_w3.out; have := sz_w4.out; omega))))
    exact acc_w4.out

set_option maxRecDepth 10000 in
set_option maxHeartbeats 2000000 in
theorem sSt_yes (g h np nb : Nat) (ps bs : List Int) (w : World) (hnp : np = ps.length) (hnb : nb = bs.length) (hP : RowG KI w (some ⟨g, 0, none⟩) ps) (hK : RowG KI w (some ⟨h, 0, none⟩) bs) (hl : np ≤ 1048576) (hl' : nb ≤ 1048576) (hr : grB ps bs = true) (hj : 0 < nb) :
    Calls Try.prog 27 #[.agg #[.slice (some ⟨g, 0, none⟩) np np, .slice (some ⟨h, 0, none⟩) nb nb]] w fun e w' => ∃ a c b d, e = .returned (.tuple #[.agg #[.slice a nb c, .slice b 0 d], .bool true]) ∧ OwnG KI 3 w' w.heap.size (.slice a nb c) bs ∧ OwnG KI 3 w' w.heap.size (.slice b 0 d) [] ∧ (∀ k, (Value.slice a nb c).ownBlock = some k → (Value.slice b 0 d).ownBlock ≠ some k) ∧ Below w.heap.size w w' := by
  have HSr := hidP (fun W h9 => src_rowG (P := Try.prog) (w := W) (K := KI) Try.tyI.1 nb nb (by show 0 < 1; omega) hnb (hK.later h9) (fun h => by cases h))
  have HNb := hidP hnb
  have HIm := hidP (fun W h9 => sGroupOk_any (some ⟨g, 0, none⟩) np np (some ⟨h, 0, none⟩) nb nb ps bs W hnp hnb (hP.later h9) (hK.later h9) hl hl')
  rw [hr] at HIm
  have dj : decide (0 < nb) = true := decide_eq_true (by omega)
  have ej : ((nb : Int) == 0) = false := by simp; omega
  clear dj
  clear hP hK hnp hnb hr
  go_enter Try.func27, Try.ntmps27
  go_wp2_with fail
  obtain ⟨bk0_W1, bk1_W1⟩ := box2D w 26 (.slice (some ⟨g, 0, none⟩) np np) (.slice (some ⟨h, 0, none⟩) nb nb)
  have bkF_W1 : ∀ o, (w.alloc (.cells #[.slice (some ⟨g, 0, none⟩) np np, .slice (some ⟨h, 0, none⟩) nb nb] 26)).frozen? ⟨w.heap.size, o, none⟩ = false := fun o => by simp [go_sem]
  have bkL_W1 : w.heap.size < (w.alloc (.cells #[.slice (some ⟨g, 0, none⟩) np np, .slice (some ⟨h, 0, none⟩) nb nb] 26)).heap.size := by simp
  have ab_W1 := alloc_below w (.cells #[.slice (some ⟨g, 0, none⟩) np np, .slice (some ⟨h, 0, none⟩) nb nb] 26)
  have as_W1 : Hid ((w.alloc (.cells #[.slice (some ⟨g, 0, none⟩) np np, .slice (some ⟨h, 0, none⟩) nb nb] 26)).heap.size = w.heap.size + 1) := hidP (by simp)
  generalize w.alloc (.cells #[.slice (some ⟨g, 0, none⟩) np np, .slice (some ⟨h, 0, none⟩) nb nb] 26) = W1 at *
  have acc_W1 := hidP (ab_W1)
  have sz_W1 : Hid (w.heap.size ≤ W1.heap.size) := hidP ab_W1.size
  clear ab_W1 
  obtain ⟨rs0_W2, rs1_W2⟩ := box2D W1 26 (.slice none 0 0) (.slice none 0 0)
  have rsF_W2 : ∀ o, (W1.alloc (.cells #[.slice none 0 0, .slice none 0 0] 26)).frozen? ⟨W1.heap.size, o, none⟩ = false := fun o => by simp [go_sem]
  have rsL_W2 : W1.heap.size < (W1.alloc (.cells #[.slice none 0 0, .slice none 0 0] 26)).heap.size := by simp
  have ab_W2 := alloc_below W1 (.cells #[.slice none 0 0, .slice none 0 0] 26)
  have as_W2 : Hid ((W1.alloc (.cells #[.slice none 0 0, .slice none 0 0] 26)).heap.size = W1.heap.size + 1) := hidP (by simp)
  generalize W1.alloc (.cells #[.slice none 0 0, .slice none 0 0] 26) = W2 at *
  have bk0_W2 := (ab_W2.cell bkL_W1).trans bk0_W1
  have bk1_W2 := (ab_W2.cell bkL_W1).trans bk1_W1
  have bkF_W2 : ∀ o, W2.frozen? ⟨w.heap.size, o, none⟩ = false := fun o => (ab_W2.frozen bkL_W1).trans (bkF_W1 o)
  have bkL_W2 : w.heap.size < W2.heap.size := Nat.lt_of_lt_of_le bkL_W1 ab_W2.size
  have acc_W2 := hidP (acc_W1.out.trans (ab_W2.mono acc_W1.out.size))
  have sz_W2 : Hid (W1.heap.size ≤ W2.heap.size) := hidP ab_W2.size
  clear ab_W2 bk0_W1 bk1_W1 bkF_W1 bkL_W1 acc_W1
  rw [as_W1.out] at rs0_W2 rs1_W2 rsL_W2
  have rsF_W2' : ∀ o, W2.frozen? ⟨w.heap.size + 1, o, none⟩ = false := fun o => by have := rsF_W2 o; rw [as_W1.out] at this; exact this
  clear rsF_W2
  have rsF_W2 := rsF_W2'
  clear rsF_W2'
  refine (HIm.out _ acc_W2.out).mono ?_
  rintro e w3 ⟨rfl, hb3⟩
  have bk0_w3 := (hb3.cell bkL_W2).trans bk0_W2
  have bk1_w3 := (hb3.cell bkL_W2).trans bk1_W2
  have bkF_w3 : ∀ o, w3.frozen? ⟨w.heap.size, o, none⟩ = false := fun o => (hb3.frozen bkL_W2).trans (bkF_W2 o)
  have bkL_w3 : w.heap.size < w3.heap.size := Nat.lt_of_lt_of_le bkL_W2 hb3.size
  have rs0_w3 := (hb3.cell rsL_W2).trans rs0_W2
  have rs1_w3 := (hb3.cell rsL_W2).trans rs1_W2
  have rsF_w3 : ∀ o, w3.frozen? ⟨w.heap.size + 1, o, none⟩ = false := fun o => (hb3.frozen rsL_W2).trans (rsF_W2 o)
  have rsL_w3 : w.heap.size + 1 < w3.heap.size := Nat.lt_of_lt_of_le rsL_W2 hb3.size
  have acc_w3 := hidP (acc_W2.out.trans (hb3.mono acc_W2.out.size))
  have sz_w3 : Hid (W2.heap.size ≤ w3.heap.size) := hidP hb3.size
  clear hb3 bk0_W2 bk1_W2 bkF_W2 bkL_W2 rs0_W2 rs1_W2 rsF_W2 rsL_W2 acc_W2
  have z3 := own_zeroG KI w3 w3.heap.size 3 (Nat.le_refl _)
  have zb3 := alloc_below w3 (.cells #[] 3)
  have HZ := hidP (And.intro z3 zb3)
  clear z3 zb3
  go_wp2_with (at_builtin; refine stp ?_)
  unfold Stp
  have HA := hidP (HSr.out _ (acc_w3.out.trans (HZ.out.2.mono acc_w3.out.size)))
  refine wpList_appG Try.tyI _ rfl (.tmp 15) (.tmp 17) 24 rfl w3.heap.size (some ⟨w3.heap.size, 0, none⟩) 0 0 nb [] bs (.slice (some ⟨h, 0, none⟩) nb nb) rfl rfl HNb.out HZ.out.1 rfl HA.out (by omega) (by simp) ?_
  intro a9 c9 w9 ho9 hg9 ht9
  rw [Nat.zero_add, List.nil_append] at ho9
  have hx := below_appG HZ.out.2 HZ.out.1 (by simp) hg9
  have hs9 := hg9.size
  have HS9 : Hid (w3.heap.size < w9.heap.size) := hidP (by simp at hs9; omega)
  have OX := hidP ho9
  clear ho9 hg9 ht9 HZ HA hs9
  have bk0_w9 := (hx.cell bkL_w3).trans bk0_w3
  have bk1_w9 := (hx.cell bkL_w3).trans bk1_w3
  have bkF_w9 : ∀ o, w9.frozen? ⟨w.heap.size, o, none⟩ = false := fun o => (hx.frozen bkL_w3).trans (bkF_w3 o)
  have bkL_w9 : w.heap.size < w9.heap.size := Nat.lt_of_lt_of_le bkL_w3 hx.size
  have rs0_w9 := (hx.cell rsL_w3).trans rs0_w3
  have rs1_w9 := (hx.cell rsL_w3).trans rs1_w3
  have rsF_w9 : ∀ o, w9.frozen? ⟨w.heap.size + 1, o, none⟩ = false := fun o => (hx.frozen rsL_w3).trans (rsF_w3 o)
  have rsL_w9 : w.heap.size + 1 < w9.heap.size := Nat.lt_of_lt_of_le rsL_w3 hx.size
  have acc_w9 := hidP (acc_w3.out.trans (hx.mono acc_w3.out.size))
  have sz_w9 : Hid (w3.heap.size ≤ w9.heap.size) := hidP hx.size
  clear hx bk0_w3 bk1_w3 bkF_w3 bkL_w3 rs0_w3 rs1_w3 rsF_w3 rsL_w3 acc_w3
  have oP_w9 := hidP (OX.out)
  have lhP : Hid (∀ k, (Value.slice a9 nb c9).ownBlock = some k → w3.heap.size ≤ k ∧ k < w9.heap.size) := hidP (fun k hk => OwnG.lt oP_w9.out k hk)
  clear OX
  have zq := own_zeroG KI w9 w9.heap.size 3 (Nat.le_refl _)
  have HQ := hidP zq
  clear zq
  go_wp2_with fail
  have q0 : (((w9.setCell ⟨w.heap.size + 1, 0, none⟩ (.slice a9 nb c9)).setCell ⟨w.heap.size + 1, 1, none⟩ (.slice (some ⟨w9.heap.size, 0, none⟩) 0 0)).alloc (.cells #[] 3)).cell? ⟨w.heap.size + 1, 0, none⟩ = some (.slice a9 nb c9) := ((alloc_below _ _).cell (by simp; exact rsL_w9)).trans (by simp [go_sem, rs0_w9])
  have q1 : (((w9.setCell ⟨w.heap.size + 1, 0, none⟩ (.slice a9 nb c9)).setCell ⟨w.heap.size + 1, 1, none⟩ (.slice (some ⟨w9.heap.size, 0, none⟩) 0 0)).alloc (.cells #[] 3)).cell? ⟨w.heap.size + 1, 1, none⟩ = some (.slice (some ⟨w9.heap.size, 0, none⟩) 0 0) := ((alloc_below _ _).cell (by simp; exact rsL_w9)).trans (by simp [go_sem, rs1_w9])
  have hq := own_zeroG KI ((w9.setCell ⟨w.heap.size + 1, 0, none⟩ (.slice a9 nb c9)).setCell ⟨w.heap.size + 1, 1, none⟩ (.slice (some ⟨w9.heap.size, 0, none⟩) 0 0)) w.heap.size 3 (by simp; have := as_W1.out; have := sz_W1.out; have := as_W2.out; have := sz_W2.out; have := sz_w3.out; have := sz_w9.out; have := HS9.out; omega)
  rw [show ((w9.setCell ⟨w.heap.size + 1, 0, none⟩ (.slice a9 nb c9)).setCell ⟨w.heap.size + 1, 1, none⟩ (.slice (some ⟨w9.heap.size, 0, none⟩) 0 0)).heap.size = w9.heap.size by simp] at hq
  refine bodyPost_ret (v := .tuple #[.agg #[.slice a9 nb c9, .slice (some ⟨w9.heap.size, 0, none⟩) 0 0], .bool true]) (by simp only [results, Try.results27]; simp [go_sem, q0, q1]) rfl ⟨_, _, _, _, rfl, ?_, hq, ?_, ?_⟩
  · refine OwnG.mono (B := w3.heap.size) (OwnG.alloc ?_ _) (by have := as_W1.out; have := sz_W1.out; have := as_W2.out; have := sz_W2.out; have := sz_w3.out; have := sz_w9.out; have := HS9.out; omega)
    iterate 2 (with_reducible refine OwnG.grown ?_ (grown_cellG _ _ _ _) ?_; rotate_left; (focus (exact OwnG.ne_of oP_w9.out (by have := as_W1.out; have := sz_W1.out; have := as_W2.out; have := sz_W2.out; have := sz_w3.out; have := sz_w9.out; have := HS9.out; omega))))
    with_reducible exact oP_w9.out
  · intro k h1 h2; have h3 := (lhP.out k h1).2; rw [ob_some, Option.some.injEq] at h2; omega
  · refine Below.alloc ?_ (by simp; have := as_W1.out; have := sz_W1.out; have := as_W2.out; have := sz_W2.out; have := sz_w3.out; have := sz_w9.out; have := HS9.out; omega) _
    repeat (with_reducible refine Below.setCell ?_ ?_ _; rotate_left; (focus (first | (simp; done) | (simp; omega) | (dsimp only; have := as_W1.out; have := sz_W1.out; have := as_W2.out; have := sz_W2.out; have := sz_w3.out; have := sz_w9.out; have := HS9.out; omega))))
    exact acc_w9.out

end Go.Proofs.Ytnngbeoeocbofaa
