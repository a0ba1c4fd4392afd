/-
  The program's Joint.
-/
import Derived.Test.YtnngbeoeocbofaaV12St
import Derived.Test.YtnngbeoeocbofaaV12Sm
namespace Go.Proofs.Ytnngbeoeocbofaa
open Go.ChangeShapes Go.WideShapes Go.ChangeAt Go.RowKit Go.Joins Go.Deep

set_option maxRecDepth 10000 in
set_option maxHeartbeats 2000000 in
theorem iJ_no (g h j np nb m : Nat) (ps bs qs : List Int) (w : World) (hnp : np = ps.length) (hnb : nb = bs.length) (hP : RowG KI w (some ⟨g, 0, none⟩) ps) (hK : RowG KI w (some ⟨h, 0, none⟩) bs) (hl : np ≤ 1048576) (hl' : nb ≤ 1048576) (_hm : m = qs.length) (_hQ : RowG KI w (some ⟨j, 0, none⟩) qs) (_hl3 : m ≤ 1048576) (hr : grB ps bs = false) :
    Calls Try.prog 22 #[.agg #[.slice (some ⟨g, 0, none⟩) np np, .slice (some ⟨h, 0, none⟩) nb nb], .slice (some ⟨j, 0, none⟩) m m] w fun e w' => ∃ a c b d, e = .returned (.tuple #[.agg #[.slice a np c, .slice b nb d], .bool false]) ∧ OwnG KI 3 w' w.heap.size (.slice a np c) ps ∧ OwnG KI 3 w' w.heap.size (.slice b nb d) bs ∧ (∀ k, (Value.slice a np c).ownBlock = some k → (Value.slice b nb d).ownBlock ≠ some k) ∧ Below w.heap.size w w' := by
  have HOw := hidP (fun W h9 => ownGroup_any (some ⟨g, 0, none⟩) np np (some ⟨h, 0, none⟩) nb nb ps bs W hnp hnb (hP.later h9) (hK.later h9) hl hl')
  have HIm := hidP (fun W h9 => iGroupOk_any (some ⟨g, 0, none⟩) np np (some ⟨h, 0, none⟩) nb nb ps bs W hnp hnb (hP.later h9) (hK.later h9) hl hl')
  rw [hr] at HIm
  clear hP hK hnp hnb hr
  go_enter Try.func22, Try.ntmps22
  go_wp2_with fail
  obtain ⟨bk0_W1, bk1_W1⟩ := box2D w 26 (.slice (some ⟨g, 0, none⟩) np np) (.slice (some ⟨h, 0, none⟩) nb nb)
  have bkF_W1 : ∀ o, (w.alloc (.cells #[.slice (some ⟨g, 0, none⟩) np np, .slice (some ⟨h, 0, none⟩) nb nb] 26)).frozen? ⟨w.heap.size, o, none⟩ = false := fun o => by simp [go_sem]
  have bkL_W1 : w.heap.size < (w.alloc (.cells #[.slice (some ⟨g, 0, none⟩) np np, .slice (some ⟨h, 0, none⟩) nb nb] 26)).heap.size := by simp
  have ab_W1 := alloc_below w (.cells #[.slice (some ⟨g, 0, none⟩) np np, .slice (some ⟨h, 0, none⟩) nb nb] 26)
  have as_W1 : Hid ((w.alloc (.cells #[.slice (some ⟨g, 0, none⟩) np np, .slice (some ⟨h, 0, none⟩) nb nb] 26)).heap.size = w.heap.size + 1) := hidP (by simp)
  generalize w.alloc (.cells #[.slice (some ⟨g, 0, none⟩) np np, .slice (some ⟨h, 0, none⟩) nb nb] 26) = W1 at *
  have acc_W1 := hidP (ab_W1)
  have sz_W1 : Hid (w.heap.size ≤ W1.heap.size) := hidP ab_W1.size
  clear ab_W1 
  obtain ⟨rs0_W2, rs1_W2⟩ := box2D W1 26 (.slice none 0 0) (.slice none 0 0)
  have rsF_W2 : ∀ o, (W1.alloc (.cells #[.slice none 0 0, .slice none 0 0] 26)).frozen? ⟨W1.heap.size, o, none⟩ = false := fun o => by simp [go_sem]
  have rsL_W2 : W1.heap.size < (W1.alloc (.cells #[.slice none 0 0, .slice none 0 0] 26)).heap.size := by simp
  have ab_W2 := alloc_below W1 (.cells #[.slice none 0 0, .slice none 0 0] 26)
  have as_W2 : Hid ((W1.alloc (.cells #[.slice none 0 0, .slice none 0 0] 26)).heap.size = W1.heap.size + 1) := hidP (by simp)
  generalize W1.alloc (.cells #[.slice none 0 0, .slice none 0 0] 26) = W2 at *
  have bk0_W2 := (ab_W2.cell bkL_W1).trans bk0_W1
  have bk1_W2 := (ab_W2.cell bkL_W1).trans bk1_W1
  have bkF_W2 : ∀ o, W2.frozen? ⟨w.heap.size, o, none⟩ = false := fun o => (ab_W2.frozen bkL_W1).trans (bkF_W1 o)
  have bkL_W2 : w.heap.size < W2.heap.size := Nat.lt_of_lt_of_le bkL_W1 ab_W2.size
  have acc_W2 := hidP (acc_W1.out.trans (ab_W2.mono acc_W1.out.size))
  have sz_W2 : Hid (W1.heap.size ≤ W2.heap.size) := hidP ab_W2.size
  clear ab_W2 bk0_W1 bk1_W1 bkF_W1 bkL_W1 acc_W1
  rw [as_W1.out] at rs0_W2 rs1_W2 rsL_W2
  have rsF_W2' : ∀ o, W2.frozen? ⟨w.heap.size + 1, o, none⟩ = false := fun o => by have := rsF_W2 o; rw [as_W1.out] at this; exact this
  clear rsF_W2
  have rsF_W2 := rsF_W2'
  clear rsF_W2'
  refine (HIm.out _ acc_W2.out).mono ?_
  rintro e w3 ⟨rfl, hb3⟩
  have bk0_w3 := (hb3.cell bkL_W2).trans bk0_W2
  have bk1_w3 := (hb3.cell bkL_W2).trans bk1_W2
  have bkF_w3 : ∀ o, w3.frozen? ⟨w.heap.size, o, none⟩ = false := fun o => (hb3.frozen bkL_W2).trans (bkF_W2 o)
  have bkL_w3 : w.heap.size < w3.heap.size := Nat.lt_of_lt_of_le bkL_W2 hb3.size
  have rs0_w3 := (hb3.cell rsL_W2).trans rs0_W2
  have rs1_w3 := (hb3.cell rsL_W2).trans rs1_W2
  have rsF_w3 : ∀ o, w3.frozen? ⟨w.heap.size + 1, o, none⟩ = false := fun o => (hb3.frozen rsL_W2).trans (rsF_W2 o)
  have rsL_w3 : w.heap.size + 1 < w3.heap.size := Nat.lt_of_lt_of_le rsL_W2 hb3.size
  have acc_w3 := hidP (acc_W2.out.trans (hb3.mono acc_W2.out.size))
  have sz_w3 : Hid (W2.heap.size ≤ w3.heap.size) := hidP hb3.size
  clear hb3 bk0_W2 bk1_W2 bkF_W2 bkL_W2 rs0_W2 rs1_W2 rsF_W2 rsL_W2 acc_W2
  go_wp2_with fail
  refine (HOw.out _ acc_w3.out).mono ?_
  rintro e w4 ⟨a4, c4, b4, d4, rfl, og4, oh4, nq4, hb4⟩
  have OX := hidP (And.intro og4 (And.intro oh4 nq4))
  clear og4 oh4 nq4
  have bk0_w4 := (hb4.cell bkL_w3).trans bk0_w3
  have bk1_w4 := (hb4.cell bkL_w3).trans bk1_w3
  have bkF_w4 : ∀ o, w4.frozen? ⟨w.heap.size, o, none⟩ = false := fun o => (hb4.frozen bkL_w3).trans (bkF_w3 o)
  have bkL_w4 : w.heap.size < w4.heap.size := Nat.lt_of_lt_of_le bkL_w3 hb4.size
  have rs0_w4 := (hb4.cell rsL_w3).trans rs0_w3
  have rs1_w4 := (hb4.cell rsL_w3).trans rs1_w3
  have rsF_w4 : ∀ o, w4.frozen? ⟨w.heap.size + 1, o, none⟩ = false := fun o => (hb4.frozen rsL_w3).trans (rsF_w3 o)
  have rsL_w4 : w.heap.size + 1 < w4.heap.size := Nat.lt_of_lt_of_le rsL_w3 hb4.size
  have acc_w4 := hidP (acc_w3.out.trans (hb4.mono acc_w3.out.size))
  have sz_w4 : Hid (w3.heap.size ≤ w4.heap.size) := hidP hb4.size
  clear hb4 bk0_w3 bk1_w3 bkF_w3 bkL_w3 rs0_w3 rs1_w3 rsF_w3 rsL_w3 acc_w3
  have oP_w4 := hidP (OX.out.1)
  have lhP : Hid (∀ k, (Value.slice a4 np c4).ownBlock = some k → w3.heap.size ≤ k ∧ k < w4.heap.size) := hidP (fun k hk => OwnG.lt oP_w4.out k hk)
  have oQ_w4 := hidP (OX.out.2.1)
  have lhQ : Hid (∀ k, (Value.slice b4 nb d4).ownBlock = some k → w3.heap.size ≤ k ∧ k < w4.heap.size) := hidP (fun k hk => OwnG.lt oQ_w4.out k hk)
  have ne4 := hidP OX.out.2.2
  clear OX
  go_wp2_with fail
  refine bodyPost_ret (v := .tuple #[.agg #[.slice a4 np c4, .slice b4 nb d4], .bool false]) (by simp [results, Try.results22, go_sem, rs0_w4, rs1_w4]) rfl ⟨_, _, _, _, rfl, ?_, ?_, ne4.out, ?_⟩
  · refine OwnG.mono (B := w3.heap.size) ?_ (by have := as_W1.out; have := sz_W1.out; have := as_W2.out; have := sz_W2.out; have := sz_w3.out; have := sz_w4.out; omega)
    iterate 2 (with_reducible refine OwnG.grown ?_ (grown_cellG _ _ _ _) ?_; rotate_left; (focus (exact OwnG.ne_of oP_w4.out (by have := as_W1.out; have := sz_W1.out; have := as_W2.out; have := sz_W2.out; have := sz_w3.out; have := sz_w4.out; omega))))
    with_reducible exact oP_w4.out
  · refine OwnG.mono (B := w3.heap.size) ?_ (by have := as_W1.out; have := sz_W1.out; have := as_W2.out; have := sz_W2.out; have := sz_w3.out; have := sz_w4.out; omega)
    iterate 2 (with_reducible refine OwnG.grown ?_ (grown_cellG _ _ _ _) ?_; rotate_left; (focus (exact OwnG.ne_of oQ_w4.out (by have := as_W1.out; have := sz_W1.out; have := as_W2.out; have := sz_W2.out; have := sz_w3.out; have := sz_w4.out; omega))))
    with_reducible exact oQ_w4.out
  · repeat (with_reducible refine Below.setCell ?_ ?_ _; rotate_left; (focus (first | (simp; done) | (simp; omega) | (dsimp only; have := as_W1.out; have := sz_W1.out; have := as_W2.out; have := sz_W2.out; have := sz_w3.out; have := sz_w4.out; omega))))
    exact acc_w4.out

set_option maxRecDepth 10000 in
set_option maxHeartbeats 2000000 in
theorem iJ_jt (g h j np nb m : Nat) (ps bs qs : List Int) (w : World) (hnp : np = ps.length) (hnb : nb = bs.length) (hP : RowG KI w (some ⟨g, 0, none⟩) ps) (hK : RowG KI w (some ⟨h, 0, none⟩) bs) (hl : np ≤ 1048576) (hl' : nb ≤ 1048576) (_hm : m = qs.length) (_hQ : RowG KI w (some ⟨j, 0, none⟩) qs) (_hl3 : m ≤ 1048576) (hr : grB ps bs = true) (hj : 0 < nb) :
    Calls Try.prog 22 #[.agg #[.slice (some ⟨g, 0, none⟩) np np, .slice (some ⟨h, 0, none⟩) nb nb], .slice (some ⟨j, 0, none⟩) m m] w fun e w' => ∃ a c b d, e = .returned (.tuple #[.agg #[.slice a np c, .slice b nb d], .bool false]) ∧ OwnG KI 3 w' w.heap.size (.slice a np c) ps ∧ OwnG KI 3 w' w.heap.size (.slice b nb d) bs ∧ (∀ k, (Value.slice a np c).ownBlock = some k → (Value.slice b nb d).ownBlock ≠ some k) ∧ Below w.heap.size w w' := by
  have HOw := hidP (fun W h9 => ownGroup_any (some ⟨g, 0, none⟩) np np (some ⟨h, 0, none⟩) nb nb ps bs W hnp hnb (hP.later h9) (hK.later h9) hl hl')
  have HIm := hidP (fun W h9 => iGroupOk_any (some ⟨g, 0, none⟩) np np (some ⟨h, 0, none⟩) nb nb ps bs W hnp hnb (hP.later h9) (hK.later h9) hl hl')
  rw [hr] at HIm
  have HJn := hidP (fun W => isJoint_any (some ⟨g, 0, none⟩) np np (some ⟨h, 0, none⟩) nb nb W)
  have dj : decide (0 < nb) = true := decide_eq_true (by omega)
  rw [dj] at HJn
  clear hP hK hnp hnb hr
  go_enter Try.func22, Try.ntmps22
  go_wp2_with fail
  obtain ⟨bk0_W1, bk1_W1⟩ := box2D w 26 (.slice (some ⟨g, 0, none⟩) np np) (.slice (some ⟨h, 0, none⟩) nb nb)
  have bkF_W1 : ∀ o, (w.alloc (.cells #[.slice (some ⟨g, 0, none⟩) np np, .slice (some ⟨h, 0, none⟩) nb nb] 26)).frozen? ⟨w.heap.size, o, none⟩ = false := fun o => by simp [go_sem]
  have bkL_W1 : w.heap.size < (w.alloc (.cells #[.slice (some ⟨g, 0, none⟩) np np, .slice (some ⟨h, 0, none⟩) nb nb] 26)).heap.size := by simp
  have ab_W1 := alloc_below w (.cells #[.slice (some ⟨g, 0, none⟩) np np, .slice (some ⟨h, 0, none⟩) nb nb] 26)
  have as_W1 : Hid ((w.alloc (.cells #[.slice (some ⟨g, 0, none⟩) np np, .slice (some ⟨h, 0, none⟩) nb nb] 26)).heap.size = w.heap.size + 1) := hidP (by simp)
  generalize w.alloc (.cells #[.slice (some ⟨g, 0, none⟩) np np, .slice (some ⟨h, 0, none⟩) nb nb] 26) = W1 at *
  have acc_W1 := hidP (ab_W1)
  have sz_W1 : Hid (w.heap.size ≤ W1.heap.size) := hidP ab_W1.size
  clear ab_W1 
  obtain ⟨rs0_W2, rs1_W2⟩ := box2D W1 26 (.slice none 0 0) (.slice none 0 0)
  have rsF_W2 : ∀ o, (W1.alloc (.cells #[.slice none 0 0, .slice none 0 0] 26)).frozen? ⟨W1.heap.size, o, none⟩ = false := fun o => by simp [go_sem]
  have rsL_W2 : W1.heap.size < (W1.alloc (.cells #[.slice none 0 0, .slice none 0 0] 26)).heap.size := by simp
  have ab_W2 := alloc_below W1 (.cells #[.slice none 0 0, .slice none 0 0] 26)
  have as_W2 : Hid ((W1.alloc (.cells #[.slice none 0 0, .slice none 0 0] 26)).heap.size = W1.heap.size + 1) := hidP (by simp)
  generalize W1.alloc (.cells #[.slice none 0 0, .slice none 0 0] 26) = W2 at *
  have bk0_W2 := (ab_W2.cell bkL_W1).trans bk0_W1
  have bk1_W2 := (ab_W2.cell bkL_W1).trans bk1_W1
  have bkF_W2 : ∀ o, W2.frozen? ⟨w.heap.size, o, none⟩ = false := fun o => (ab_W2.frozen bkL_W1).trans (bkF_W1 o)
  have bkL_W2 : w.heap.size < W2.heap.size := Nat.lt_of_lt_of_le bkL_W1 ab_W2.size
  have acc_W2 := hidP (acc_W1.out.trans (ab_W2.mono acc_W1.out.size))
  have sz_W2 : Hid (W1.heap.size ≤ W2.heap.size) := hidP ab_W2.size
  clear ab_W2 bk0_W1 bk1_W1 bkF_W1 bkL_W1 acc_W1
  rw [as_W1.out] at rs0_W2 rs1_W2 rsL_W2
  have rsF_W2' : ∀ o, W2.frozen? ⟨w.heap.size + 1, o, none⟩ = false := fun o => by have := rsF_W2 o; rw [as_W1.out] at this; exact this
  clear rsF_W2
  have rsF_W2 := rsF_W2'
  clear rsF_W2'
  refine (HIm.out _ acc_W2.out).mono ?_
  rintro e w3 ⟨rfl, hb3⟩
  have bk0_w3 := (hb3.cell bkL_W2).trans bk0_W2
  have bk1_w3 := (hb3.cell bkL_W2).trans bk1_W2
  have bkF_w3 : ∀ o, w3.frozen? ⟨w.heap.size, o, none⟩ = false := fun o => (hb3.frozen bkL_W2).trans (bkF_W2 o)
  have bkL_w3 : w.heap.size < w3.heap.size := Nat.lt_of_lt_of_le bkL_W2 hb3.size
  have rs0_w3 := (hb3.cell rsL_W2).trans rs0_W2
  have rs1_w3 := (hb3.cell rsL_W2).trans rs1_W2
  have rsF_w3 : ∀ o, w3.frozen? ⟨w.heap.size + 1, o, none⟩ = false := fun o => (hb3.frozen rsL_W2).trans (rsF_W2 o)
  have rsL_w3 : w.heap.size + 1 < w3.heap.size := Nat.lt_of_lt_of_le rsL_W2 hb3.size
  have acc_w3 := hidP (acc_W2.out.trans (hb3.mono acc_W2.out.size))
  have sz_w3 : Hid (W2.heap.size ≤ w3.heap.size) := hidP hb3.size
  clear hb3 bk0_W2 bk1_W2 bkF_W2 bkL_W2 rs0_W2 rs1_W2 rsF_W2 rsL_W2 acc_W2
  go_wp2_with fail
  refine (HJn.out _).mono ?_
  rintro e wj ⟨rfl, hbj⟩
  have bk0_wj := (hbj.cell bkL_w3).trans bk0_w3
  have bk1_wj := (hbj.cell bkL_w3).trans bk1_w3
  have bkF_wj : ∀ o, wj.frozen? ⟨w.heap.size, o, none⟩ = false := fun o => (hbj.frozen bkL_w3).trans (bkF_w3 o)
  have bkL_wj : w.heap.size < wj.heap.size := Nat.lt_of_lt_of_le bkL_w3 hbj.size
  have rs0_wj := (hbj.cell rsL_w3).trans rs0_w3
  have rs1_wj := (hbj.cell rsL_w3).trans rs1_w3
  have rsF_wj : ∀ o, wj.frozen? ⟨w.heap.size + 1, o, none⟩ = false := fun o => (hbj.frozen rsL_w3).trans (rsF_w3 o)
  have rsL_wj : w.heap.size + 1 < wj.heap.size := Nat.lt_of_lt_of_le rsL_w3 hbj.size
  have acc_wj := hidP (acc_w3.out.trans (hbj.mono acc_w3.out.size))
  have sz_wj : Hid (w3.heap.size ≤ wj.heap.size) := hidP hbj.size
  clear hbj bk0_w3 bk1_w3 bkF_w3 bkL_w3 rs0_w3 rs1_w3 rsF_w3 rsL_w3 acc_w3
  go_wp2_with fail
  refine (HOw.out _ acc_wj.out).mono ?_
  rintro e w4 ⟨a4, c4, b4, d4, rfl, og4, oh4, nq4, hb4⟩
  have OX := hidP (And.intro og4 (And.intro oh4 nq4))
  clear og4 oh4 nq4
  have bk0_w4 := (hb4.cell bkL_wj).trans bk0_wj
  have bk1_w4 := (hb4.cell bkL_wj).trans bk1_wj
  have bkF_w4 : ∀ o, w4.frozen? ⟨w.heap.size, o, none⟩ = false := fun o => (hb4.frozen bkL_wj).trans (bkF_wj o)
  have bkL_w4 : w.heap.size < w4.heap.size := Nat.lt_of_lt_of_le bkL_wj hb4.size
  have rs0_w4 := (hb4.cell rsL_wj).trans rs0_wj
  have rs1_w4 := (hb4.cell rsL_wj).trans rs1_wj
  have rsF_w4 : ∀ o, w4.frozen? ⟨w.heap.size + 1, o, none⟩ = false := fun o => (hb4.frozen rsL_wj).trans (rsF_wj o)
  have rsL_w4 : w.heap.size + 1 < w4.heap.size := Nat.lt_of_lt_of_le rsL_wj hb4.size
  have acc_w4 := hidP (acc_wj.out.trans (hb4.mono acc_wj.out.size))
  have sz_w4 : Hid (wj.heap.size ≤ w4.heap.size) := hidP hb4.size
  clear hb4 bk0_wj bk1_wj bkF_wj bkL_wj rs0_wj rs1_wj rsF_wj rsL_wj acc_wj
  have oP_w4 := hidP (OX.out.1)
  have lhP : Hid (∀ k, (Value.slice a4 np c4).ownBlock = some k → wj.heap.size ≤ k ∧ k < w4.heap.size) := hidP (fun k hk => OwnG.lt oP_w4.out k hk)
  have oQ_w4 := hidP (OX.out.2.1)
  have lhQ : Hid (∀ k, (Value.slice b4 nb d4).ownBlock = some k → wj.heap.size ≤ k ∧ k < w4.heap.size) := hidP (fun k hk => OwnG.lt oQ_w4.out k hk)
  have ne4 := hidP OX.out.2.2
  clear OX
  go_wp2_with fail
  refine bodyPost_ret (v := .tuple #[.agg #[.slice a4 np c4, .slice b4 nb d4], .bool false]) (by simp [results, Try.results22, go_sem, rs0_w4, rs1_w4]) rfl ⟨_, _, _, _, rfl, ?_, ?_, ne4.out, ?_⟩
  · refine OwnG.mono (B := wj.heap.size) ?_ (by have := as_W1.out; have := sz_W1.out; have := as_W2.out; have := sz_W2.out; have := sz_w3.out; have := sz_wj.out; have := sz_w4.out; omega)
    iterate 2 (with_reducible refine OwnG.grown ?_ (grown_cellG _ _ _ _) ?_; rotate_left; (focus (exact OwnG.ne_of oP_w4.out (by have := as_W1.out; have := sz_W1.out; have := as_W2.out; have := sz_W2.out; have := sz_w3.out; have := sz_wj.out; have := sz_w4.out; omega))))
    with_reducible exact oP_w4.out
  · refine OwnG.mono (B := wj.heap.size) ?_ (by have := as_W1.out; have := sz_W1.out; have := as_W2.out; have := sz_W2.out; have := sz_w3.out; have := sz_wj.out; have := sz_w4.out; omega)
    iterate 2 (with_reducible refine OwnG.grown ?_ (grown_cellG _ _ _ _) ?_; rotate_left; (focus (exact OwnG.ne_of oQ_w4.out (by have := as_W1.out; have := sz_W1.out; have := as_W2.out; have := sz_W2.out; have := sz_w3.out; have := sz_wj.out; have := sz_w4.out; omega))))
    with_reducible exact oQ_w4.out
  · repeat (with_reducible refine Below.setCell ?_ ?_ _; rotate_left; (focus (first | (simp; done) | (simp; omega) | (dsimp only; have := as_W1.out; have := sz_W1.out; have := as_W2.out; have := sz_W2.out; have := sz_w3.out; have := sz_wj.out; have := sz_w4.out; omega))))
    exact acc_w4.out

set_option maxRecDepth 10000 in
set_option maxHeartbeats 2000000 in
theorem iJ_af (g h j np nb m : Nat) (ps bs qs : List Int) (w : World) (hnp : np = ps.length) (hnb : nb = bs.length) (hP : RowG KI w (some ⟨g, 0, none⟩) ps) (hK : RowG KI w (some ⟨h, 0, none⟩) bs) (hl : np ≤ 1048576) (hl' : nb ≤ 1048576) (hm : m = qs.length) (hQ : RowG KI w (some ⟨j, 0, none⟩) qs) (hl3 : m ≤ 1048576) (hr : grB ps bs = true) (hj : nb = 0) (ha : aftB ps qs = false) :
    Calls Try.prog 22 #[.agg #[.slice (some ⟨g, 0, none⟩) np np, .slice (some ⟨h, 0, none⟩) nb nb], .slice (some ⟨j, 0, none⟩) m m] w fun e w' => ∃ a c b d, e = .returned (.tuple #[.agg #[.slice a np c, .slice b nb d], .bool false]) ∧ OwnG KI 3 w' w.heap.size (.slice a np c) ps ∧ OwnG KI 3 w' w.heap.size (.slice b nb d) bs ∧ (∀ k, (Value.slice a np c).ownBlock = some k → (Value.slice b nb d).ownBlock ≠ some k) ∧ Below w.heap.size w w' := by
  have HOw := hidP (fun W h9 => ownGroup_any (some ⟨g, 0, none⟩) np np (some ⟨h, 0, none⟩) nb nb ps bs W hnp hnb (hP.later h9) (hK.later h9) hl hl')
  have HIm := hidP (fun W h9 => iGroupOk_any (some ⟨g, 0, none⟩) np np (some ⟨h, 0, none⟩) nb nb ps bs W hnp hnb (hP.later h9) (hK.later h9) hl hl')
  rw [hr] at HIm
  have HJn := hidP (fun W => isJoint_any (some ⟨g, 0, none⟩) np np (some ⟨h, 0, none⟩) nb nb W)
  have dj : decide (0 < nb) = false := decide_eq_false (by omega)
  rw [dj] at HJn
  have HZj := hidP hj
  clear hj
  have HAf := hidP (fun W h9 => comesAfter_any (some ⟨g, 0, none⟩) (some ⟨j, 0, none⟩) np np m m ps qs W hnp hm (hP.later h9) (hQ.later h9) hl hl3)
  rw [ha] at HAf
  clear ha
  clear hP hK hQ hnp hnb hm hr
  go_enter Try.func22, Try.ntmps22
  go_wp2_with fail
  obtain ⟨bk0_W1, bk1_W1⟩ := box2D w 26 (.slice (some ⟨g, 0, none⟩) np np) (.slice (some ⟨h, 0, none⟩) nb nb)
  have bkF_W1 : ∀ o, (w.alloc (.cells #[.slice (some ⟨g, 0, none⟩) np np, .slice (some ⟨h, 0, none⟩) nb nb] 26)).frozen? ⟨w.heap.size, o, none⟩ = false := fun o => by simp [go_sem]
  have bkL_W1 : w.heap.size < (w.alloc (.cells #[.slice (some ⟨g, 0, none⟩) np np, .slice (some ⟨h, 0, none⟩) nb nb] 26)).heap.size := by simp
  have ab_W1 := alloc_below w (.cells #[.slice (some ⟨g, 0, none⟩) np np, .slice (some ⟨h, 0, none⟩) nb nb] 26)
  have as_W1 : Hid ((w.alloc (.cells #[.slice (some ⟨g, 0, none⟩) np np, .slice (some ⟨h, 0, none⟩) nb nb] 26)).heap.size = w.heap.size + 1) := hidP (by simp)
  generalize w.alloc (.cells #[.slice (some ⟨g, 0, none⟩) np np, .slice (some ⟨h, 0, none⟩) nb nb] 26) = W1 at *
  have acc_W1 := hidP (ab_W1)
  have sz_W1 : Hid (w.heap.size ≤ W1.heap.size) := hidP ab_W1.size
  clear ab_W1 
  obtain ⟨rs0_W2, rs1_W2⟩ := box2D W1 26 (.slice none 0 0) (.slice none 0 0)
  have rsF_W2 : ∀ o, (W1.alloc (.cells #[.slice none 0 0, .slice none 0 0] 26)).frozen? ⟨W1.heap.size, o, none⟩ = false := fun o => by simp [go_sem]
  have rsL_W2 : W1.heap.size < (W1.alloc (.cells #[.slice none 0 0, .slice none 0 0] 26)).heap.size := by simp
  have ab_W2 := alloc_below W1 (.cells #[.slice none 0 0, .slice none 0 0] 26)
  have as_W2 : Hid ((W1.alloc (.cells #[.slice none 0 0, .slice none 0 0] 26)).heap.size = W1.heap.size + 1) := hidP (by simp)
  generalize W1.alloc (.cells #[.slice none 0 0, .slice none 0 0] 26) = W2 at *
  have bk0_W2 := (ab_W2.cell bkL_W1).trans bk0_W1
  have bk1_W2 := (ab_W2.cell bkL_W1).trans bk1_W1
  have bkF_W2 : ∀ o, W2.frozen? ⟨w.heap.size, o, none⟩ = false := fun o => (ab_W2.frozen bkL_W1).trans (bkF_W1 o)
  have bkL_W2 : w.heap.size < W2.heap.size := Nat.lt_of_lt_of_le bkL_W1 ab_W2.size
  have acc_W2 := hidP (acc_W1.out.trans (ab_W2.mono acc_W1.out.size))
  have sz_W2 : Hid (W1.heap.size ≤ W2.heap.size) := hidP ab_W2.size
  clear ab_W2 bk0_W1 bk1_W1 bkF_W1 bkL_W1 acc_W1
  rw [as_W1.out] at rs0_W2 rs1_W2 rsL_W2
  have rsF_W2' : ∀ o, W2.frozen? ⟨w.heap.size + 1, o, none⟩ = false := fun o => by have := rsF_W2 o; rw [as_W1.out] at this; exact this
  clear rsF_W2
  have rsF_W2 := rsF_W2'
  clear rsF_W2'
  refine (HIm.out _ acc_W2.out).mono ?_
  rintro e w3 ⟨rfl, hb3⟩
  have bk0_w3 := (hb3.cell bkL_W2).trans bk0_W2
  have bk1_w3 := (hb3.cell bkL_W2).trans bk1_W2
  have bkF_w3 : ∀ o, w3.frozen? ⟨w.heap.size, o, none⟩ = false := fun o => (hb3.frozen bkL_W2).trans (bkF_W2 o)
  have bkL_w3 : w.heap.size < w3.heap.size := Nat.lt_of_lt_of_le bkL_W2 hb3.size
  have rs0_w3 := (hb3.cell rsL_W2).trans rs0_W2
  have rs1_w3 := (hb3.cell rsL_W2).trans rs1_W2
  have rsF_w3 : ∀ o, w3.frozen? ⟨w.heap.size + 1, o, none⟩ = false := fun o => (hb3.frozen rsL_W2).trans (rsF_W2 o)
  have rsL_w3 : w.heap.size + 1 < w3.heap.size := Nat.lt_of_lt_of_le rsL_W2 hb3.size
  have acc_w3 := hidP (acc_W2.out.trans (hb3.mono acc_W2.out.size))
  have sz_w3 : Hid (W2.heap.size ≤ w3.heap.size) := hidP hb3.size
  clear hb3 bk0_W2 bk1_W2 bkF_W2 bkL_W2 rs0_W2 rs1_W2 rsF_W2 rsL_W2 acc_W2
  go_wp2_with fail
  refine (HJn.out _).mono ?_
  rintro e wj ⟨rfl, hbj⟩
  have bk0_wj := (hbj.cell bkL_w3).trans bk0_w3
  have bk1_wj := (hbj.cell bkL_w3).trans bk1_w3
  have bkF_wj : ∀ o, wj.frozen? ⟨w.heap.size, o, none⟩ = false := fun o => (hbj.frozen bkL_w3).trans (bkF_w3 o)
  have bkL_wj : w.heap.size < wj.heap.size := Nat.lt_of_lt_of_le bkL_w3 hbj.size
  have rs0_wj := (hbj.cell rsL_w3).trans rs0_w3
  have rs1_wj := (hbj.cell rsL_w3).trans rs1_w3
  have rsF_wj : ∀ o, wj.frozen? ⟨w.heap.size + 1, o, none⟩ = false := fun o => (hbj.frozen rsL_w3).trans (rsF_w3 o)
  have rsL_wj : w.heap.size + 1 < wj.heap.size := Nat.lt_of_lt_of_le rsL_w3 hbj.size
  have acc_wj := hidP (acc_w3.out.trans (hbj.mono acc_w3.out.size))
  have sz_wj : Hid (w3.heap.size ≤ wj.heap.size) := hidP hbj.size
  clear hbj bk0_w3 bk1_w3 bkF_w3 bkL_w3 rs0_w3 rs1_w3 rsF_w3 rsL_w3 acc_w3
  go_wp2_with fail
  refine (HAf.out _ acc_wj.out).mono ?_
  rintro e wk ⟨rfl, hbk⟩
  have bk0_wk := (hbk.cell bkL_wj).trans bk0_wj
  have bk1_wk := (hbk.cell bkL_wj).trans bk1_wj
  have bkF_wk : ∀ o, wk.frozen? ⟨w.heap.size, o, none⟩ = false := fun o => (hbk.frozen bkL_wj).trans (bkF_wj o)
  have bkL_wk : w.heap.size < wk.heap.size := Nat.lt_of_lt_of_le bkL_wj hbk.size
  have rs0_wk := (hbk.cell rsL_wj).trans rs0_wj
  have rs1_wk := (hbk.cell rsL_wj).trans rs1_wj
  have rsF_wk : ∀ o, wk.frozen? ⟨w.heap.size + 1, o, none⟩ = false := fun o => (hbk.frozen rsL_wj).trans (rsF_wj o)
  have rsL_wk : w.heap.size + 1 < wk.heap.size := Nat.lt_of_lt_of_le rsL_wj hbk.size
  have acc_wk := hidP (acc_wj.out.trans (hbk.mono acc_wj.out.size))
  have sz_wk : Hid (wj.heap.size ≤ wk.heap.size) := hidP hbk.size
  clear hbk bk0_wj bk1_wj bkF_wj bkL_wj rs0_wj rs1_wj rsF_wj rsL_wj acc_wj
  go_wp2_with fail
  refine (HOw.out _ acc_wk.out).mono ?_
  rintro e w4 ⟨a4, c4, b4, d4, rfl, og4, oh4, nq4, hb4⟩
  have OX := hidP (And.intro og4 (And.intro oh4 nq4))
  clear og4 oh4 nq4
  have bk0_w4 := (hb4.cell bkL_wk).trans bk0_wk
  have bk1_w4 := (hb4.cell bkL_wk).trans bk1_wk
  have bkF_w4 : ∀ o, w4.frozen? ⟨w.heap.size, o, none⟩ = false := fun o => (hb4.frozen bkL_wk).trans (bkF_wk o)
  have bkL_w4 : w.heap.size < w4.heap.size := Nat.lt_of_lt_of_le bkL_wk hb4.size
  have rs0_w4 := (hb4.cell rsL_wk).trans rs0_wk
  have rs1_w4 := (hb4.cell rsL_wk).trans rs1_wk
  have rsF_w4 : ∀ o, w4.frozen? ⟨w.heap.size + 1, o, none⟩ = false := fun o => (hb4.frozen rsL_wk).trans (rsF_wk o)
  have rsL_w4 : w.heap.size + 1 < w4.heap.size := Nat.lt_of_lt_of_le rsL_wk hb4.size
  have acc_w4 := hidP (acc_wk.out.trans (hb4.mono acc_wk.out.size))
  have sz_w4 : Hid (wk.heap.size ≤ w4.heap.size) := hidP hb4.size
  clear hb4 bk0_wk bk1_wk bkF_wk bkL_wk rs0_wk rs1_wk rsF_wk rsL_wk acc_wk
  have oP_w4 := hidP (OX.out.1)
  have lhP : Hid (∀ k, (Value.slice a4 np c4).ownBlock = some k → wk.heap.size ≤ k ∧ k < w4.heap.size) := hidP (fun k hk => OwnG.lt oP_w4.out k hk)
  have oQ_w4 := hidP (OX.out.2.1)
  have lhQ : Hid (∀ k, (Value.slice b4 nb d4).ownBlock = some k → wk.heap.size ≤ k ∧ k < w4.heap.size) := hidP (fun k hk => OwnG.lt oQ_w4.out k hk)
  have ne4 := hidP OX.out.2.2
  clear OX
  go_wp2_with fail
  refine bodyPost_ret (v := .tuple #[.agg #[.slice a4 np c4, .slice b4 nb d4], .bool false]) (by simp [results, Try.results22, go_sem, rs0_w4, rs1_w4]) rfl ⟨_, _, _, _, rfl, ?_, ?_, ne4.out, ?_⟩
  · refine OwnG.mono (B := wk.heap.size) ?_ (by have := as_W1.out; have := sz_W1.out; have := as_W2.out; have := sz_W2.out; have := sz_w3.out; have := sz_wj.out; have := sz_wk.out; have := sz_w4.out; omega)
    iterate 2 (with_reducible refine OwnG.grown ?_ (grown_cellG _ _ _ _) ?_; rotate_left; (focus (exact OwnG.ne_of oP_w4.out (by have := as_W1.out; have := sz_W1.out; have := as_W2.out; have := sz_W2.out; have := sz_w3.out; have := sz_wj.out; have := sz_wk.out; have := sz_w4.out; omega))))
    with_reducible exact oP_w4.out
  · refine OwnG.mono (B := wk.heap.size) ?_ (by have := as_W1.out; have := sz_W1.out; have := as_W2.out; have := sz_W2.out; have := sz_w3.out; have := sz_wj.out; have := sz_wk.out; have := sz_w4.out; omega)
    iterate 2 (with_reducible refine OwnG.grown ?_ (grown_cellG _ _ _ _) ?_; rotate_left; (focus (exact OwnG.ne_of oQ_w4.out (by have := as_W1.out; have := sz_W1.out; have := as_W2.out; have := sz_W2.out; have := sz_w3.out; have := sz_wj.out; have := sz_wk.out; have := sz_w4.out; omega))))
    with_reducible exact oQ_w4.out
  · repeat (with_reducible refine Below.setCell ?_ ?_ _; rotate_left; (focus (first | (simp; done) | (simp; omega) | (dsimp only; have := as_W1.out; have := sz_W1.out; have := as_W2.out; have := sz_W2.out; have := sz_w3.out; have := sz_wj.out; have := sz_wk.out; have := sz_w4.out; omega))))
    exact acc_w4.out

set_option maxRecDepth 10000 in
set_option maxHeartbeats 2000000 in
theorem iJ_yes (g h j np nb m : Nat) (ps bs qs : List Int) (w : World) (hnp : np = ps.length) (hnb : nb = bs.length) (hP : RowG KI w (some ⟨g, 0, none⟩) ps) (hK : RowG KI w (some ⟨h, 0, none⟩) bs) (hl : np ≤ 1048576) (hl' : nb ≤ 1048576) (hm : m = qs.length) (hQ : RowG KI w (some ⟨j, 0, none⟩) qs) (hl3 : m ≤ 1048576) (hr : grB ps bs = true) (hj : nb = 0) (ha : aftB ps qs = true) :
    Calls Try.prog 22 #[.agg #[.slice (some ⟨g, 0, none⟩) np np, .slice (some ⟨h, 0, none⟩) nb nb], .slice (some ⟨j, 0, none⟩) m m] w fun e w' => ∃ a c b d, e = .returned (.tuple #[.agg #[.slice a np c, .slice b m d], .bool true]) ∧ OwnG KI 3 w' w.heap.size (.slice a np c) ps ∧ OwnG KI 3 w' w.heap.size (.slice b m d) qs ∧ (∀ k, (Value.slice a np c).ownBlock = some k → (Value.slice b m d).ownBlock ≠ some k) ∧ Below w.heap.size w w' := by
  have HOw := hidP (fun W h9 => ownGroup_any (some ⟨g, 0, none⟩) np np (some ⟨j, 0, none⟩) m m ps qs W hnp hm (hP.later h9) (hQ.later h9) hl hl3)
  have HIm := hidP (fun W h9 => iGroupOk_any (some ⟨g, 0, none⟩) np np (some ⟨h, 0, none⟩) nb nb ps bs W hnp hnb (hP.later h9) (hK.later h9) hl hl')
  rw [hr] at HIm
  have HJn := hidP (fun W => isJoint_any (some ⟨g, 0, none⟩) np np (some ⟨h, 0, none⟩) nb nb W)
  have dj : decide (0 < nb) = false := decide_eq_false (by omega)
  rw [dj] at HJn
  have HZj := hidP hj
  clear hj
  have HAf := hidP (fun W h9 => comesAfter_any (some ⟨g, 0, none⟩) (some ⟨j, 0, none⟩) np np m m ps qs W hnp hm (hP.later h9) (hQ.later h9) hl hl3)
  rw [ha] at HAf
  clear ha
  clear hP hK hQ hnp hnb hm hr
  go_enter Try.func22, Try.ntmps22
  go_wp2_with fail
  obtain ⟨bk0_W1, bk1_W1⟩ := box2D w 26 (.slice (some ⟨g, 0, none⟩) np np) (.slice (some ⟨h, 0, none⟩) nb nb)
  have bkF_W1 : ∀ o, (w.alloc (.cells #[.slice (some ⟨g, 0, none⟩) np np, .slice (some ⟨h, 0, none⟩) nb nb] 26)).frozen? ⟨w.heap.size, o, none⟩ = false := fun o => by simp [go_sem]
  have bkL_W1 : w.heap.size < (w.alloc (.cells #[.slice (some ⟨g, 0, none⟩) np np, .slice (some ⟨h, 0, none⟩) nb nb] 26)).heap.size := by simp
  have ab_W1 := alloc_below w (.cells #[.slice (some ⟨g, 0, none⟩) np np, .slice (some ⟨h, 0, none⟩) nb nb] 26)
  have as_W1 : Hid ((w.alloc (.cells #[.slice (some ⟨g, 0, none⟩) np np, .slice (some ⟨h, 0, none⟩) nb nb] 26)).heap.size = w.heap.size + 1) := hidP (by simp)
  generalize w.alloc (.cells #[.slice (some ⟨g, 0, none⟩) np np, .slice (some ⟨h, 0, none⟩) nb nb] 26) = W1 at *
  have acc_W1 := hidP (ab_W1)
  have sz_W1 : Hid (w.heap.size ≤ W1.heap.size) := hidP ab_W1.size
  clear ab_W1 
  obtain ⟨rs0_W2, rs1_W2⟩ := box2D W1 26 (.slice none 0 0) (.slice none 0 0)
  have rsF_W2 : ∀ o, (W1.alloc (.cells #[.slice none 0 0, .slice none 0 0] 26)).frozen? ⟨W1.heap.size, o, none⟩ = false := fun o => by simp [go_sem]
  have rsL_W2 : W1.heap.size < (W1.alloc (.cells #[.slice none 0 0, .slice none 0 0] 26)).heap.size := by simp
  have ab_W2 := alloc_below W1 (.cells #[.slice none 0 0, .slice none 0 0] 26)
  have as_W2 : Hid ((W1.alloc (.cells #[.slice none 0 0, .slice none 0 0] 26)).heap.size = W1.heap.size + 1) := hidP (by simp)
  generalize W1.alloc (.cells #[.slice none 0 0, .slice none 0 0] 26) = W2 at *
  have bk0_W2 := (ab_W2.cell bkL_W1).trans bk0_W1
  have bk1_W2 := (ab_W2.cell bkL_W1).trans bk1_W1
  have bkF_W2 : ∀ o, W2.frozen? ⟨w.heap.size, o, none⟩ = false := fun o => (ab_W2.frozen bkL_W1).trans (bkF_W1 o)
  have bkL_W2 : w.heap.size < W2.heap.size := Nat.lt_of_lt_of_le bkL_W1 ab_W2.size
  have acc_W2 := hidP (acc_W1.out.trans (ab_W2.mono acc_W1.out.size))
  have sz_W2 : Hid (W1.heap.size ≤ W2.heap.size) := hidP ab_W2.size
  clear ab_W2 bk0_W1 bk1_W1 bkF_W1 bkL_W1 acc_W1
  rw [as_W1.out] at rs0_W2 rs1_W2 rsL_W2
  have rsF_W2' : ∀ o, W2.frozen? ⟨w.heap.size + 1, o, none⟩ = false := fun o => by have := rsF_W2 o; rw [as_W1.out] at this; exact this
  clear rsF_W2
  have rsF_W2 := rsF_W2'
  clear rsF_W2'
  refine (HIm.out _ acc_W2.out).mono ?_
  rintro e w3 ⟨rfl, hb3⟩
  have bk0_w3 := (hb3.cell bkL_W2).trans bk0_W2
  have bk1_w3 := (hb3.cell bkL_W2).trans bk1_W2
  have bkF_w3 : ∀ o, w3.frozen? ⟨w.heap.size, o, none⟩ = false := fun o => (hb3.frozen bkL_W2).trans (bkF_W2 o)
  have bkL_w3 : w.heap.size < w3.heap.size := Nat.lt_of_lt_of_le bkL_W2 hb3.size
  have rs0_w3 := (hb3.cell rsL_W2).trans rs0_W2
  have rs1_w3 := (hb3.cell rsL_W2).trans rs1_W2
  have rsF_w3 : ∀ o, w3.frozen? ⟨w.heap.size + 1, o, none⟩ = false := fun o => (hb3.frozen rsL_W2).trans (rsF_W2 o)
  have rsL_w3 : w.heap.size + 1 < w3.heap.size := Nat.lt_of_lt_of_le rsL_W2 hb3.size
  have acc_w3 := hidP (acc_W2.out.trans (hb3.mono acc_W2.out.size))
  have sz_w3 : Hid (W2.heap.size ≤ w3.heap.size) := hidP hb3.size
  clear hb3 bk0_W2 bk1_W2 bkF_W2 bkL_W2 rs0_W2 rs1_W2 rsF_W2 rsL_W2 acc_W2
  go_wp2_with fail
  refine (HJn.out _).mono ?_
  rintro e wj ⟨rfl, hbj⟩
  have bk0_wj := (hbj.cell bkL_w3).trans bk0_w3
  have bk1_wj := (hbj.cell bkL_w3).trans bk1_w3
  have bkF_wj : ∀ o, wj.frozen? ⟨w.heap.size, o, none⟩ = false := fun o => (hbj.frozen bkL_w3).trans (bkF_w3 o)
  have bkL_wj : w.heap.size < wj.heap.size := Nat.lt_of_lt_of_le bkL_w3 hbj.size
  have rs0_wj := (hbj.cell rsL_w3).trans rs0_w3
  have rs1_wj := (hbj.cell rsL_w3).trans rs1_w3
  have rsF_wj : ∀ o, wj.frozen? ⟨w.heap.size + 1, o, none⟩ = false := fun o => (hbj.frozen rsL_w3).trans (rsF_w3 o)
  have rsL_wj : w.heap.size + 1 < wj.heap.size := Nat.lt_of_lt_of_le rsL_w3 hbj.size
  have acc_wj := hidP (acc_w3.out.trans (hbj.mono acc_w3.out.size))
  have sz_wj : Hid (w3.heap.size ≤ wj.heap.size) := hidP hbj.size
  clear hbj bk0_w3 bk1_w3 bkF_w3 bkL_w3 rs0_w3 rs1_w3 rsF_w3 rsL_w3 acc_w3
  go_wp2_with fail
  refine (HAf.out _ acc_wj.out).mono ?_
  rintro e wk ⟨rfl, hbk⟩
  have bk0_wk := (hbk.cell bkL_wj).trans bk0_wj
  have bk1_wk := (hbk.cell bkL_wj).trans bk1_wj
  have bkF_wk : ∀ o, wk.frozen? ⟨w.heap.size, o, none⟩ = false := fun o => (hbk.frozen bkL_wj).trans (bkF_wj o)
  have bkL_wk : w.heap.size < wk.heap.size := Nat.lt_of_lt_of_le bkL_wj hbk.size
  have rs0_wk := (hbk.cell rsL_wj).trans rs0_wj
  have rs1_wk := (hbk.cell rsL_wj).trans rs1_wj
  have rsF_wk : ∀ o, wk.frozen? ⟨w.heap.size + 1, o, none⟩ = false := fun o => (hbk.frozen rsL_wj).trans (rsF_wj o)
  have rsL_wk : w.heap.size + 1 < wk.heap.size := Nat.lt_of_lt_of_le rsL_wj hbk.size
  have acc_wk := hidP (acc_wj.out.trans (hbk.mono acc_wj.out.size))
  have sz_wk : Hid (wj.heap.size ≤ wk.heap.size) := hidP hbk.size
  clear hbk bk0_wj bk1_wj bkF_wj bkL_wj rs0_wj rs1_wj rsF_wj rsL_wj acc_wj
  go_wp2_with fail
  refine (HOw.out _ acc_wk.out).mono ?_
  rintro e w4 ⟨a4, c4, b4, d4, rfl, og4, oh4, nq4, hb4⟩
  have OX := hidP (And.intro og4 (And.intro oh4 nq4))
  clear og4 oh4 nq4
  have bk0_w4 := (hb4.cell bkL_wk).trans bk0_wk
  have bk1_w4 := (hb4.cell bkL_wk).trans bk1_wk
  have bkF_w4 : ∀ o, w4.frozen? ⟨w.heap.size, o, none⟩ = false := fun o => (hb4.frozen bkL_wk).trans (bkF_wk o)
  have bkL_w4 : w.heap.size < w4.heap.size := Nat.lt_of_lt_of_le bkL_wk hb4.size
  have rs0_w4 := (hb4.cell rsL_wk).trans rs0_wk
  have rs1_w4 := (hb4.cell rsL_wk).trans rs1_wk
  have rsF_w4 : ∀ o, w4.frozen? ⟨w.heap.size + 1, o, none⟩ = false := fun o => (hb4.frozen rsL_wk).trans (rsF_wk o)
  have rsL_w4 : w.heap.size + 1 < w4.heap.size := Nat.lt_of_lt_of_le rsL_wk hb4.size
  have acc_w4 := hidP (acc_wk.out.trans (hb4.mono acc_wk.out.size))
  have sz_w4 : Hid (wk.heap.size ≤ w4.heap.size) := hidP hb4.size
  clear hb4 bk0_wk bk1_wk bkF_wk bkL_wk rs0_wk rs1_wk rsF_wk rsL_wk acc_wk
  have oP_w4 := hidP (OX.out.1)
  have lhP : Hid (∀ k, (Value.slice a4 np c4).ownBlock = some k → wk.heap.size ≤ k ∧ k < w4.heap.size) := hidP (fun k hk => OwnG.lt oP_w4.out k hk)
  have oQ_w4 := hidP (OX.out.2.1)
  have lhQ : Hid (∀ k, (Value.slice b4 m d4).ownBlock = some k → wk.heap.size ≤ k ∧ k < w4.heap.size) := hidP (fun k hk => OwnG.lt oQ_w4.out k hk)
  have ne4 := hidP OX.out.2.2
  clear OX
  go_wp2_with fail
  refine bodyPost_ret (v := .tuple #[.agg #[.slice a4 np c4, .slice b4 m d4], .bool true]) (by simp [results, Try.results22, go_sem, rs0_w4, rs1_w4]) rfl ⟨_, _, _, _, rfl, ?_, ?_, ne4.out, ?_⟩
  · refine OwnG.mono (B := wk.heap.size) ?_ (by have := as_W1.out; have := sz_W1.out; have := as_W2.out; have := sz_W2.out; have := sz_w3.out; have := sz_wj.out; have := sz_wk.out; have := sz_w4.out; omega)
    iterate 2 (with_reducible refine OwnG.grown ?_ (grown_cellG _ _ _ _) ?_; rotate_left; (focus (exact OwnG.ne_of oP_w4.out (by have := as_W1.out; have := sz_W1.out; have := as_W2.out; have := sz_W2.out; have := sz_w3.out; have := sz_wj.out; have := sz_wk.out; have := sz_w4.out; omega))))
    with_reducible exact oP_w4.out
  · refine OwnG.mono (B := wk.heap.size) ?_ (by have := as_W1.out; have := sz_W1.out; have := as_W2.out; have := sz_W2.out; have := sz_w3.out; have := sz_wj.out; have := sz_wk.out; have := sz_w4.out; omega)
    iterate 2 (with_reducible refine OwnG.grown ?_ (grown_cellG _ _ _ _) ?_; rotate_left; (focus (exact OwnG.ne_of oQ_w4.out (by have := as_W1.out; have := sz_W1.out; have := as_W2.out; have := sz_W2.out; have := sz_w3.out; have := sz_wj.out; have := sz_wk.out; have := sz_w4.out; omega))))
    with_reducible exact oQ_w4.out
  · repeat (with_reducible refine Below.setCell ?_ ?_ _; rotate_left; (focus (first | (simp; done) | (simp; omega) | (dsimp only; have := as_W1.out; have := sz_W1.out; have := as_W2.out; have := sz_W2.out; have := sz_w3.out; have := sz_wj.out; have := sz_wk.out; have := sz_w4.out; omega))))
    exact acc_w4.out

end Go.Proofs.Ytnngbeoeocbofaa
