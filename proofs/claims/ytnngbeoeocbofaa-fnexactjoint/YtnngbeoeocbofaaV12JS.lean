/-
  The specification's Joint.
-/
import Derived.Test.YtnngbeoeocbofaaV12St
import Derived.Test.YtnngbeoeocbofaaV12Sm
namespace Go.Proofs.Ytnngbeoeocbofaa
open Go.ChangeShapes Go.WideShapes Go.ChangeAt Go.RowKit Go.Joins Go.Deep

set_option maxRecDepth 10000 in
set_option maxHeartbeats 2000000 in
theorem sJ_no (g h j np nb m : Nat) (ps bs qs : List Int) (w : World) (hnp : np = ps.length) (hnb : nb = bs.length) (hP : RowG KI w (some ⟨g, 0, none⟩) ps) (hK : RowG KI w (some ⟨h, 0, none⟩) bs) (hl : np ≤ 1048576) (hl' : nb ≤ 1048576) (_hm : m = qs.length) (_hQ : RowG KI w (some ⟨j, 0, none⟩) qs) (_hl3 : m ≤ 1048576) (hr : grB ps bs = false) :
    Calls Try.prog 20 #[.agg #[.slice (some ⟨g, 0, none⟩) np np, .slice (some ⟨h, 0, none⟩) nb nb], .slice (some ⟨j, 0, none⟩) m m] w fun e w' => ∃ a c b d, e = .returned (.tuple #[.agg #[.slice a np c, .slice b nb d], .bool false]) ∧ OwnG KI 3 w' w.heap.size (.slice a np c) ps ∧ OwnG KI 3 w' w.heap.size (.slice b nb d) bs ∧ (∀ k, (Value.slice a np c).ownBlock = some k → (Value.slice b nb d).ownBlock ≠ some k) ∧ Below w.heap.size w w' := by
  have HOw := hidP (fun W h9 => l12Copy_any (some ⟨g, 0, none⟩) np np (some ⟨h, 0, none⟩) nb nb ps bs W hnp hnb (hP.later h9) (hK.later h9) (fun h => by cases h) (fun h => by cases h) hl hl')
  have HIm := hidP (fun W h9 => sGroupOk_any (some ⟨g, 0, none⟩) np np (some ⟨h, 0, none⟩) nb nb ps bs W hnp hnb (hP.later h9) (hK.later h9) hl hl')
  rw [hr] at HIm
  clear hP hK hnp hnb hr
  go_enter Try.func20, Try.ntmps20
  go_wp2_with fail
  obtain ⟨bk0_W1, bk1_W1⟩ := box2D w 26 (.slice (some ⟨g, 0, none⟩) np np) (.slice (some ⟨h, 0, none⟩) nb nb)
  have bkF_W1 : ∀ o, (w.alloc (.cells #[.slice (some ⟨g, 0, none⟩) np np, .slice (some ⟨h, 0, none⟩) nb nb] 26)).frozen? ⟨w.heap.size, o, none⟩ = false := fun o => by simp [go_sem]
  have bkL_W1 : w.heap.size < (w.alloc (.cells #[.slice (some ⟨g, 0, none⟩) np np, .slice (some ⟨h, 0, none⟩) nb nb] 26)).heap.size := by simp
  have ab_W1 := alloc_below w (.cells #[.slice (some ⟨g, 0, none⟩) np np, .slice (some ⟨h, 0, none⟩) nb nb] 26)
  have as_W1 : Hid ((w.alloc (.cells #[.slice (some ⟨g, 0, none⟩) np np, .slice (some ⟨h, 0, none⟩) nb nb] 26)).heap.size = w.heap.size + 1) := hidP (by simp)
  generalize w.alloc (.cells #[.slice (some ⟨g, 0, none⟩) np np, .slice (some ⟨h, 0, none⟩) nb nb] 26) = W1 at *
  have acc_W1 := hidP (ab_W1)
  have sz_W1 : Hid (w.heap.size ≤ W1.heap.size) := hidP ab_W1.size
  clear ab_W1 
  obtain ⟨rs0_W2, rs1_W2⟩ := box2D W1 26 (.slice none 0 0) (.slice none 0 0)
  have rsF_W2 : ∀ o, (W1.alloc (.cells #[.slice none 0 0, .slice none 0 0] 26)).frozen? ⟨W1.heap.size, o, none⟩ = false := fun o => by simp [go_sem]
  have rsL_W2 : W1.heap.size < (W1.alloc (.cells #[.slice none 0 0, .slice none 0 0] 26)).heap.size := by simp
  have ab_W2 := alloc_below W1 (.cells #[.slice none 0 0, .slice none 0 0] 26)
  have as_W2 : Hid ((W1.alloc (.cells #[.slice none 0 0, .slice none 0 0] 26)).heap.size = W1.heap.size + 1) := hidP (by simp)
  generalize W1.alloc (.cells #[.slice none 0 0, .slice none 0 0] 26) = W2 at *
  have bk0_W2 := (ab_W2.cell bkL_W1).trans bk0_W1
  have bk1_W2 := (ab_W2.cell bkL_W1).trans bk1_W1
  have bkF_W2 : ∀ o, W2.frozen? ⟨w.heap.size, o, none⟩ = false := fun o => (ab_W2.frozen bkL_W1).trans (bkF_W1 o)
  have bkL_W2 : w.heap.size < W2.heap.size := Nat.lt_of_lt_of_le bkL_W1 ab_W2.size
  have acc_W2 := hidP (acc_W1.out.trans (ab_W2.mono acc_W1.out.size))
  have sz_W2 : Hid (W1.heap.size ≤ W2.heap.size) := hidP ab_W2.size
  clear ab_W2 bk0_W1 bk1_W1 bkF_W1 bkL_W1 acc_W1
  rw [as_W1.out] at rs0_W2 rs1_W2 rsL_W2
  have rsF_W2' : ∀ o, W2.frozen? ⟨w.heap.size + 1, o, none⟩ = false := fun o => by have := rsF_W2 o; rw [as_W1.out] at this; exact this
  clear rsF_W2
  have rsF_W2 := rsF_W2'
  clear rsF_W2'
  refine (HOw.out _ acc_W2.out).mono ?_
  rintro e w3 ⟨a3, c3, b3, d3, rfl, og3, oh3, nq3, hb3⟩
  have OX := hidP (And.intro og3 (And.intro oh3 nq3))
  clear og3 oh3 nq3
  have bk0_w3 := (hb3.cell bkL_W2).trans bk0_W2
  have bk1_w3 := (hb3.cell bkL_W2).trans bk1_W2
  have bkF_w3 : ∀ o, w3.frozen? ⟨w.heap.size, o, none⟩ = false := fun o => (hb3.frozen bkL_W2).trans (bkF_W2 o)
  have bkL_w3 : w.heap.size < w3.heap.size := Nat.lt_of_lt_of_le bkL_W2 hb3.size
  have rs0_w3 := (hb3.cell rsL_W2).trans rs0_W2
  have rs1_w3 := (hb3.cell rsL_W2).trans rs1_W2
  have rsF_w3 : ∀ o, w3.frozen? ⟨w.heap.size + 1, o, none⟩ = false := fun o => (hb3.frozen rsL_W2).trans (rsF_W2 o)
  have rsL_w3 : w.heap.size + 1 < w3.heap.size := Nat.lt_of_lt_of_le rsL_W2 hb3.size
  have acc_w3 := hidP (acc_W2.out.trans (hb3.mono acc_W2.out.size))
  have sz_w3 : Hid (W2.heap.size ≤ w3.heap.size) := hidP hb3.size
  clear hb3 bk0_W2 bk1_W2 bkF_W2 bkL_W2 rs0_W2 rs1_W2 rsF_W2 rsL_W2 acc_W2
  have oP_w3 := hidP (OX.out.1)
  have lhP : Hid (∀ k, (Value.slice a3 np c3).ownBlock = some k → W2.heap.size ≤ k ∧ k < w3.heap.size) := hidP (fun k hk => OwnG.lt oP_w3.out k hk)
  have oQ_w3 := hidP (OX.out.2.1)
  have lhQ : Hid (∀ k, (Value.slice b3 nb d3).ownBlock = some k → W2.heap.size ≤ k ∧ k < w3.heap.size) := hidP (fun k hk => OwnG.lt oQ_w3.out k hk)
  have ne3 := hidP OX.out.2.2
  clear OX
  go_wp2_with fail
  obtain ⟨ou0_W4, ou1_W4⟩ := box2D w3 26 (.slice a3 np c3) (.slice b3 nb d3)
  have ouF_W4 : ∀ o, (w3.alloc (.cells #[.slice a3 np c3, .slice b3 nb d3] 26)).frozen? ⟨w3.heap.size, o, none⟩ = false := fun o => by simp [go_sem]
  have ouL_W4 : w3.heap.size < (w3.alloc (.cells #[.slice a3 np c3, .slice b3 nb d3] 26)).heap.size := by simp
  have ab_W4 := alloc_below w3 (.cells #[.slice a3 np c3, .slice b3 nb d3] 26)
  have as_W4 : Hid ((w3.alloc (.cells #[.slice a3 np c3, .slice b3 nb d3] 26)).heap.size = w3.heap.size + 1) := hidP (by simp)
  generalize w3.alloc (.cells #[.slice a3 np c3, .slice b3 nb d3] 26) = W4 at *
  have bk0_W4 := (ab_W4.cell bkL_w3).trans bk0_w3
  have bk1_W4 := (ab_W4.cell bkL_w3).trans bk1_w3
  have bkF_W4 : ∀ o, W4.frozen? ⟨w.heap.size, o, none⟩ = false := fun o => (ab_W4.frozen bkL_w3).trans (bkF_w3 o)
  have bkL_W4 : w.heap.size < W4.heap.size := Nat.lt_of_lt_of_le bkL_w3 ab_W4.size
  have rs0_W4 := (ab_W4.cell rsL_w3).trans rs0_w3
  have rs1_W4 := (ab_W4.cell rsL_w3).trans rs1_w3
  have rsF_W4 : ∀ o, W4.frozen? ⟨w.heap.size + 1, o, none⟩ = false := fun o => (ab_W4.frozen rsL_w3).trans (rsF_w3 o)
  have rsL_W4 : w.heap.size + 1 < W4.heap.size := Nat.lt_of_lt_of_le rsL_w3 ab_W4.size
  have oP_W4 := hidP (OwnG.later oP_w3.out ab_W4)
  have oQ_W4 := hidP (OwnG.later oQ_w3.out ab_W4)
  have acc_W4 := hidP (acc_w3.out.trans (ab_W4.mono acc_w3.out.size))
  have sz_W4 : Hid (w3.heap.size ≤ W4.heap.size) := hidP ab_W4.size
  clear ab_W4 bk0_w3 bk1_w3 bkF_w3 bkL_w3 rs0_w3 rs1_w3 rsF_w3 rsL_w3 oP_w3 oQ_w3 acc_w3
  refine (HIm.out _ acc_W4.out).mono ?_
  rintro e w5 ⟨rfl, hb_w5⟩
  have bk0_w5 := (hb_w5.cell bkL_W4).trans bk0_W4
  have bk1_w5 := (hb_w5.cell bkL_W4).trans bk1_W4
  have bkF_w5 : ∀ o, w5.frozen? ⟨w.heap.size, o, none⟩ = false := fun o => (hb_w5.frozen bkL_W4).trans (bkF_W4 o)
  have bkL_w5 : w.heap.size < w5.heap.size := Nat.lt_of_lt_of_le bkL_W4 hb_w5.size
  have rs0_w5 := (hb_w5.cell rsL_W4).trans rs0_W4
  have rs1_w5 := (hb_w5.cell rsL_W4).trans rs1_W4
  have rsF_w5 : ∀ o, w5.frozen? ⟨w.heap.size + 1, o, none⟩ = false := fun o => (hb_w5.frozen rsL_W4).trans (rsF_W4 o)
  have rsL_w5 : w.heap.size + 1 < w5.heap.size := Nat.lt_of_lt_of_le rsL_W4 hb_w5.size
  have ou0_w5 := (hb_w5.cell ouL_W4).trans ou0_W4
  have ou1_w5 := (hb_w5.cell ouL_W4).trans ou1_W4
  have ouF_w5 : ∀ o, w5.frozen? ⟨w3.heap.size, o, none⟩ = false := fun o => (hb_w5.frozen ouL_W4).trans (ouF_W4 o)
  have ouL_w5 : w3.heap.size < w5.heap.size := Nat.lt_of_lt_of_le ouL_W4 hb_w5.size
  have oP_w5 := hidP (OwnG.later oP_W4.out hb_w5)
  have oQ_w5 := hidP (OwnG.later oQ_W4.out hb_w5)
  have acc_w5 := hidP (acc_W4.out.trans (hb_w5.mono acc_W4.out.size))
  have sz_w5 : Hid (W4.heap.size ≤ w5.heap.size) := hidP hb_w5.size
  clear hb_w5 bk0_W4 bk1_W4 bkF_W4 bkL_W4 rs0_W4 rs1_W4 rsF_W4 rsL_W4 ou0_W4 ou1_W4 ouF_W4 ouL_W4 oP_W4 oQ_W4 acc_W4
  go_wp2_with fail
  refine bodyPost_ret (v := .tuple #[.agg #[.slice a3 np c3, .slice b3 nb d3], .bool false]) (by simp [results, Try.results20, go_sem, rs0_w5, rs1_w5]) rfl ⟨_, _, _, _, rfl, ?_, ?_, ne3.out, ?_⟩
  · refine OwnG.mono (B := W2.heap.size) ?_ (by have := as_W1.out; have := sz_W1.out; have := as_W2.out; have := sz_W2.out; have := sz_w3.out; have := as_W4.out; have := sz_W4.out; have := sz_w5.out; omega)
    iterate 2 (with_reducible refine OwnG.grown ?_ (grown_cellG _ _ _ _) ?_; rotate_left; (focus (exact OwnG.ne_of oP_w5.out (by have := as_W1.out; have := sz_W1.out; have := as_W2.out; have := sz_W2.out; have := sz_w3.out; have := as_W4.out; have := sz_W4.out; have := sz_w5.out; omega))))
    with_reducible exact oP_w5.out
  · refine OwnG.mono (B := W2.heap.size) ?_ (by have := as_W1.out; have := sz_W1.out; have := as_W2.out; have := sz_W2.out; have := sz_w3.out; have := as_W4.out; have := sz_W4.out; have := sz_w5.out; omega)
    iterate 2 (with_reducible refine OwnG.grown ?_ (grown_cellG _ _ _ _) ?_; rotate_left; (focus (exact OwnG.ne_of oQ_w5.out (by have := as_W1.out; have := sz_W1.out; have := as_W2.out; have := sz_W2.out; have := sz_w3.out; have := as_W4.out; have := sz_W4.out; have := sz_w5.out; omega))))
    with_reducible exact oQ_w5.out
  · repeat (with_reducible refine Below.setCell ?_ ?_ _; rotate_left; (focus (first | (simp; done) | (simp; omega) | (dsimp only; have := as_W1.out; have := sz_W1.out; have := as_W2.out; have := sz_W2.out; have := sz_w3.out; have := as_W4.out; have := sz_W4.out; have := sz_w5.out; omega))))
    exact acc_w5.out

set_option maxRecDepth 10000 in
set_option maxHeartbeats 2000000 in
theorem sJ_jt (g h j np nb m : Nat) (ps bs qs : List Int) (w : World) (hnp : np = ps.length) (hnb : nb = bs.length) (hP : RowG KI w (some ⟨g, 0, none⟩) ps) (hK : RowG KI w (some ⟨h, 0, none⟩) bs) (hl : np ≤ 1048576) (hl' : nb ≤ 1048576) (_hm : m = qs.length) (_hQ : RowG KI w (some ⟨j, 0, none⟩) qs) (_hl3 : m ≤ 1048576) (hr : grB ps bs = true) (hj : 0 < nb) :
    Calls Try.prog 20 #[.agg #[.slice (some ⟨g, 0, none⟩) np np, .slice (some ⟨h, 0, none⟩) nb nb], .slice (some ⟨j, 0, none⟩) m m] w fun e w' => ∃ a c b d, e = .returned (.tuple #[.agg #[.slice a np c, .slice b nb d], .bool false]) ∧ OwnG KI 3 w' w.heap.size (.slice a np c) ps ∧ OwnG KI 3 w' w.heap.size (.slice b nb d) bs ∧ (∀ k, (Value.slice a np c).ownBlock = some k → (Value.slice b nb d).ownBlock ≠ some k) ∧ Below w.heap.size w w' := by
  have HOw := hidP (fun W h9 => l12Copy_any (some ⟨g, 0, none⟩) np np (some ⟨h, 0, none⟩) nb nb ps bs W hnp hnb (hP.later h9) (hK.later h9) (fun h => by cases h) (fun h => by cases h) hl hl')
  have HIm := hidP (fun W h9 => sGroupOk_any (some ⟨g, 0, none⟩) np np (some ⟨h, 0, none⟩) nb nb ps bs W hnp hnb (hP.later h9) (hK.later h9) hl hl')
  rw [hr] at HIm
  have dj : decide ((0 : Int) < (nb : Int)) = true := decide_eq_true (by omega)
  have dj2 : decide (0 < nb) = true := decide_eq_true (by omega)
  clear hP hK hnp hnb hr
  go_enter Try.func20, Try.ntmps20
  go_wp2_with fail
  obtain ⟨bk0_W1, bk1_W1⟩ := box2D w 26 (.slice (some ⟨g, 0, none⟩) np np) (.slice (some ⟨h, 0, none⟩) nb nb)
  have bkF_W1 : ∀ o, (w.alloc (.cells #[.slice (some ⟨g, 0, none⟩) np np, .slice (some ⟨h, 0, none⟩) nb nb] 26)).frozen? ⟨w.heap.size, o, none⟩ = false := fun o => by simp [go_sem]
  have bkL_W1 : w.heap.size < (w.alloc (.cells #[.slice (some ⟨g, 0, none⟩) np np, .slice (some ⟨h, 0, none⟩) nb nb] 26)).heap.size := by simp
  have ab_W1 := alloc_below w (.cells #[.slice (some ⟨g, 0, none⟩) np np, .slice (some ⟨h, 0, none⟩) nb nb] 26)
  have as_W1 : Hid ((w.alloc (.cells #[.slice (some ⟨g, 0, none⟩) np np, .slice (some ⟨h, 0, none⟩) nb nb] 26)).heap.size = w.heap.size + 1) := hidP (by simp)
  generalize w.alloc (.cells #[.slice (some ⟨g, 0, none⟩) np np, .slice (some ⟨h, 0, none⟩) nb nb] 26) = W1 at *
  have acc_W1 := hidP (ab_W1)
  have sz_W1 : Hid (w.heap.size ≤ W1.heap.size) := hidP ab_W1.size
  clear ab_W1 
  obtain ⟨rs0_W2, rs1_W2⟩ := box2D W1 26 (.slice none 0 0) (.slice none 0 0)
  have rsF_W2 : ∀ o, (W1.alloc (.cells #[.slice none 0 0, .slice none 0 0] 26)).frozen? ⟨W1.heap.size, o, none⟩ = false := fun o => by simp [go_sem]
  have rsL_W2 : W1.heap.size < (W1.alloc (.cells #[.slice none 0 0, .slice none 0 0] 26)).heap.size := by simp
  have ab_W2 := alloc_below W1 (.cells #[.slice none 0 0, .slice none 0 0] 26)
  have as_W2 : Hid ((W1.alloc (.cells #[.slice none 0 0, .slice none 0 0] 26)).heap.size = W1.heap.size + 1) := hidP (by simp)
  generalize W1.alloc (.cells #[.slice none 0 0, .slice none 0 0] 26) = W2 at *
  have bk0_W2 := (ab_W2.cell bkL_W1).trans bk0_W1
  have bk1_W2 := (ab_W2.cell bkL_W1).trans bk1_W1
  have bkF_W2 : ∀ o, W2.frozen? ⟨w.heap.size, o, none⟩ = false := fun o => (ab_W2.frozen bkL_W1).trans (bkF_W1 o)
  have bkL_W2 : w.heap.size < W2.heap.size := Nat.lt_of_lt_of_le bkL_W1 ab_W2.size
  have acc_W2 := hidP (acc_W1.out.trans (ab_W2.mono acc_W1.out.size))
  have sz_W2 : Hid (W1.heap.size ≤ W2.heap.size) := hidP ab_W2.size
  clear ab_W2 bk0_W1 bk1_W1 bkF_W1 bkL_W1 acc_W1
  rw [as_W1.out] at rs0_W2 rs1_W2 rsL_W2
  have rsF_W2' : ∀ o, W2.frozen? ⟨w.heap.size + 1, o, none⟩ = false := fun o => by have := rsF_W2 o; rw [as_W1.out] at this; exact this
  clear rsF_W2
  have rsF_W2 := rsF_W2'
  clear rsF_W2'
  refine (HOw.out _ acc_W2.out).mono ?_
  rintro e w3 ⟨a3, c3, b3, d3, rfl, og3, oh3, nq3, hb3⟩
  have OX := hidP (And.intro og3 (And.intro oh3 nq3))
  clear og3 oh3 nq3
  have bk0_w3 := (hb3.cell bkL_W2).trans bk0_W2
  have bk1_w3 := (hb3.cell bkL_W2).trans bk1_W2
  have bkF_w3 : ∀ o, w3.frozen? ⟨w.heap.size, o, none⟩ = false := fun o => (hb3.frozen bkL_W2).trans (bkF_W2 o)
  have bkL_w3 : w.heap.size < w3.heap.size := Nat.lt_of_lt_of_le bkL_W2 hb3.size
  have rs0_w3 := (hb3.cell rsL_W2).trans rs0_W2
  have rs1_w3 := (hb3.cell rsL_W2).trans rs1_W2
  have rsF_w3 : ∀ o, w3.frozen? ⟨w.heap.size + 1, o, none⟩ = false := fun o => (hb3.frozen rsL_W2).trans (rsF_W2 o)
  have rsL_w3 : w.heap.size + 1 < w3.heap.size := Nat.lt_of_lt_of_le rsL_W2 hb3.size
  have acc_w3 := hidP (acc_W2.out.trans (hb3.mono acc_W2.out.size))
  have sz_w3 : Hid (W2.heap.size ≤ w3.heap.size) := hidP hb3.size
  clear hb3 bk0_W2 bk1_W2 bkF_W2 bkL_W2 rs0_W2 rs1_W2 rsF_W2 rsL_W2 acc_W2
  have oP_w3 := hidP (OX.out.1)
  have lhP : Hid (∀ k, (Value.slice a3 np c3).ownBlock = some k → W2.heap.size ≤ k ∧ k < w3.heap.size) := hidP (fun k hk => OwnG.lt oP_w3.out k hk)
  have oQ_w3 := hidP (OX.out.2.1)
  have lhQ : Hid (∀ k, (Value.slice b3 nb d3).ownBlock = some k → W2.heap.size ≤ k ∧ k < w3.heap.size) := hidP (fun k hk => OwnG.lt oQ_w3.out k hk)
  have ne3 := hidP OX.out.2.2
  clear OX
  go_wp2_with fail
  obtain ⟨ou0_W4, ou1_W4⟩ := box2D w3 26 (.slice a3 np c3) (.slice b3 nb d3)
  have ouF_W4 : ∀ o, (w3.alloc (.cells #[.slice a3 np c3, .slice b3 nb d3] 26)).frozen? ⟨w3.heap.size, o, none⟩ = false := fun o => by simp [go_sem]
  have ouL_W4 : w3.heap.size < (w3.alloc (.cells #[.slice a3 np c3, .slice b3 nb d3] 26)).heap.size := by simp
  have ab_W4 := alloc_below w3 (.cells #[.slice a3 np c3, .slice b3 nb d3] 26)
  have as_W4 : Hid ((w3.alloc (.cells #[.slice a3 np c3, .slice b3 nb d3] 26)).heap.size = w3.heap.size + 1) := hidP (by simp)
  generalize w3.alloc (.cells #[.slice a3 np c3, .slice b3 nb d3] 26) = W4 at *
  have bk0_W4 := (ab_W4.cell bkL_w3).trans bk0_w3
  have bk1_W4 := (ab_W4.cell bkL_w3).trans bk1_w3
  have bkF_W4 : ∀ o, W4.frozen? ⟨w.heap.size, o, none⟩ = false := fun o => (ab_W4.frozen bkL_w3).trans (bkF_w3 o)
  have bkL_W4 : w.heap.size < W4.heap.size := Nat.lt_of_lt_of_le bkL_w3 ab_W4.size
  have rs0_W4 := (ab_W4.cell rsL_w3).trans rs0_w3
  have rs1_W4 := (ab_W4.cell rsL_w3).trans rs1_w3
  have rsF_W4 : ∀ o, W4.frozen? ⟨w.heap.size + 1, o, none⟩ = false := fun o => (ab_W4.frozen rsL_w3).trans (rsF_w3 o)
  have rsL_W4 : w.heap.size + 1 < W4.heap.size := Nat.lt_of_lt_of_le rsL_w3 ab_W4.size
  have oP_W4 := hidP (OwnG.later oP_w3.out ab_W4)
  have oQ_W4 := hidP (OwnG.later oQ_w3.out ab_W4)
  have acc_W4 := hidP (acc_w3.out.trans (ab_W4.mono acc_w3.out.size))
  have sz_W4 : Hid (w3.heap.size ≤ W4.heap.size) := hidP ab_W4.size
  clear ab_W4 bk0_w3 bk1_w3 bkF_w3 bkL_w3 rs0_w3 rs1_w3 rsF_w3 rsL_w3 oP_w3 oQ_w3 acc_w3
  refine (HIm.out _ acc_W4.out).mono ?_
  rintro e w5 ⟨rfl, hb_w5⟩
  have bk0_w5 := (hb_w5.cell bkL_W4).trans bk0_W4
  have bk1_w5 := (hb_w5.cell bkL_W4).trans bk1_W4
  have bkF_w5 : ∀ o, w5.frozen? ⟨w.heap.size, o, none⟩ = false := fun o => (hb_w5.frozen bkL_W4).trans (bkF_W4 o)
  have bkL_w5 : w.heap.size < w5.heap.size := Nat.lt_of_lt_of_le bkL_W4 hb_w5.size
  have rs0_w5 := (hb_w5.cell rsL_W4).trans rs0_W4
  have rs1_w5 := (hb_w5.cell rsL_W4).trans rs1_W4
  have rsF_w5 : ∀ o, w5.frozen? ⟨w.heap.size + 1, o, none⟩ = false := fun o => (hb_w5.frozen rsL_W4).trans (rsF_W4 o)
  have rsL_w5 : w.heap.size + 1 < w5.heap.size := Nat.lt_of_lt_of_le rsL_W4 hb_w5.size
  have ou0_w5 := (hb_w5.cell ouL_W4).trans ou0_W4
  have ou1_w5 := (hb_w5.cell ouL_W4).trans ou1_W4
  have ouF_w5 : ∀ o, w5.frozen? ⟨w3.heap.size, o, none⟩ = false := fun o => (hb_w5.frozen ouL_W4).trans (ouF_W4 o)
  have ouL_w5 : w3.heap.size < w5.heap.size := Nat.lt_of_lt_of_le ouL_W4 hb_w5.size
  have oP_w5 := hidP (OwnG.later oP_W4.out hb_w5)
  have oQ_w5 := hidP (OwnG.later oQ_W4.out hb_w5)
  have acc_w5 := hidP (acc_W4.out.trans (hb_w5.mono acc_W4.out.size))
  have sz_w5 : Hid (W4.heap.size ≤ w5.heap.size) := hidP hb_w5.size
  clear hb_w5 bk0_W4 bk1_W4 bkF_W4 bkL_W4 rs0_W4 rs1_W4 rsF_W4 rsL_W4 ou0_W4 ou1_W4 ouF_W4 ouL_W4 oP_W4 oQ_W4 acc_W4
  go_wp2_with fail
  refine bodyPost_ret (v := .tuple #[.agg #[.slice a3 np c3, .slice b3 nb d3], .bool false]) (by simp [results, Try.results20, go_sem, rs0_w5, rs1_w5]) rfl ⟨_, _, _, _, rfl, ?_, ?_, ne3.out, ?_⟩
  · refine OwnG.mono (B := W2.heap.size) ?_ (by have := as_W1.out; have := sz_W1.out; have := as_W2.out; have := sz_W2.out; have := sz_w3.out; have := as_W4.out; have := sz_W4.out; have := sz_w5.out; omega)
    iterate 2 (with_reducible refine OwnG.grown ?_ (grown_cellG _ _ _ _) ?_; rotate_left; (focus (exact OwnG.ne_of oP_w5.out (by have := as_W1.out; have := sz_W1.out; have := as_W2.out; have := sz_W2.out; have := sz_w3.out; have := as_W4.out; have := sz_W4.out; have := sz_w5.out; omega))))
    with_reducible exact oP_w5.out
  · refine OwnG.mono (B := W2.heap.size) ?_ (by have := as_W1.out; have := sz_W1.out; have := as_W2.out; have := sz_W2.out; have := sz_w3.out; have := as_W4.out; have := sz_W4.out; have := sz_w5.out; omega)
    iterate 2 (with_reducible refine OwnG.grown ?_ (grown_cellG _ _ _ _) ?_; rotate_left; (focus (exact OwnG.ne_of oQ_w5.out (by have := as_W1.out; have := sz_W1.out; have := as_W2.out; have := sz_W2.out; have := sz_w3.out; have := as_W4.out; have := sz_W4.out; have := sz_w5.out; omega))))
    with_reducible exact oQ_w5.out
  · repeat (with_reducible refine Below.setCell ?_ ?_ _; rotate_left; (focus (first | (simp; done) | (simp; omega) | (dsimp only; have := as_W1.out; have := sz_W1.out; have := as_W2.out; have := sz_W2.out; have := sz_w3.out; have := as_W4.out; have := sz_W4.out; have := sz_w5.out; omega))))
    exact acc_w5.out

set_option maxRecDepth 10000 in
set_option maxHeartbeats 2000000 in
theorem sJ_id (g h j np nb m : Nat) (ps bs qs : List Int) (w : World) (hnp : np = ps.length) (hnb : nb = bs.length) (hP : RowG KI w (some ⟨g, 0, none⟩) ps) (hK : RowG KI w (some ⟨h, 0, none⟩) bs) (hl : np ≤ 1048576) (hl' : nb ≤ 1048576) (hm : m = qs.length) (hQ : RowG KI w (some ⟨j, 0, none⟩) qs) (hl3 : m ≤ 1048576) (hr : grB ps bs = true) (hj : nb = 0) (hi : idsB 0 qs = false) :
    Calls Try.prog 20 #[.agg #[.slice (some ⟨g, 0, none⟩) np np, .slice (some ⟨h, 0, none⟩) nb nb], .slice (some ⟨j, 0, none⟩) m m] w fun e w' => ∃ a c b d, e = .returned (.tuple #[.agg #[.slice a np c, .slice b nb d], .bool false]) ∧ OwnG KI 3 w' w.heap.size (.slice a np c) ps ∧ OwnG KI 3 w' w.heap.size (.slice b nb d) bs ∧ (∀ k, (Value.slice a np c).ownBlock = some k → (Value.slice b nb d).ownBlock ≠ some k) ∧ Below w.heap.size w w' := by
  have HOw := hidP (fun W h9 => l12Copy_any (some ⟨g, 0, none⟩) np np (some ⟨h, 0, none⟩) nb nb ps bs W hnp hnb (hP.later h9) (hK.later h9) (fun h => by cases h) (fun h => by cases h) hl hl')
  have HIm := hidP (fun W h9 => sGroupOk_any (some ⟨g, 0, none⟩) np np (some ⟨h, 0, none⟩) nb nb ps bs W hnp hnb (hP.later h9) (hK.later h9) hl hl')
  rw [hr] at HIm
  have dj : decide ((0 : Int) < (nb : Int)) = false := decide_eq_false (by omega)
  have dj2 : decide (0 < nb) = false := decide_eq_false (by omega)
  have HZj := hidP hj
  clear hj
  have HId := hidP (fun W h9 => l12Ids_any (some ⟨j, 0, none⟩) m m qs W hm (hQ.later h9) hl3)
  rw [hi] at HId
  clear hi
  clear hP hK hQ hnp hnb hm hr
  go_enter Try.func20, Try.ntmps20
  go_wp2_with fail
  obtain ⟨bk0_W1, bk1_W1⟩ := box2D w 26 (.slice (some ⟨g, 0, none⟩) np np) (.slice (some ⟨h, 0, none⟩) nb nb)
  have bkF_W1 : ∀ o, (w.alloc (.cells #[.slice (some ⟨g, 0, none⟩) np np, .slice (some ⟨h, 0, none⟩) nb nb] 26)).frozen? ⟨w.heap.size, o, none⟩ = false := fun o => by simp [go_sem]
  have bkL_W1 : w.heap.size < (w.alloc (.cells #[.slice (some ⟨g, 0, none⟩) np np, .slice (some ⟨h, 0, none⟩) nb nb] 26)).heap.size := by simp
  have ab_W1 := alloc_below w (.cells #[.slice (some ⟨g, 0, none⟩) np np, .slice (some ⟨h, 0, none⟩) nb nb] 26)
  have as_W1 : Hid ((w.alloc (.cells #[.slice (some ⟨g, 0, none⟩) np np, .slice (some ⟨h, 0, none⟩) nb nb] 26)).heap.size = w.heap.size + 1) := hidP (by simp)
  generalize w.alloc (.cells #[.slice (some ⟨g, 0, none⟩) np np, .slice (some ⟨h, 0, none⟩) nb nb] 26) = W1 at *
  have acc_W1 := hidP (ab_W1)
  have sz_W1 : Hid (w.heap.size ≤ W1.heap.size) := hidP ab_W1.size
  clear ab_W1 
  obtain ⟨rs0_W2, rs1_W2⟩ := box2D W1 26 (.slice none 0 0) (.slice none 0 0)
  have rsF_W2 : ∀ o, (W1.alloc (.cells #[.slice none 0 0, .slice none 0 0] 26)).frozen? ⟨W1.heap.size, o, none⟩ = false := fun o => by simp [go_sem]
  have rsL_W2 : W1.heap.size < (W1.alloc (.cells #[.slice none 0 0, .slice none 0 0] 26)).heap.size := by simp
  have ab_W2 := alloc_below W1 (.cells #[.slice none 0 0, .slice none 0 0] 26)
  have as_W2 : Hid ((W1.alloc (.cells #[.slice none 0 0, .slice none 0 0] 26)).heap.size = W1.heap.size + 1) := hidP (by simp)
  generalize W1.alloc (.cells #[.slice none 0 0, .slice none 0 0] 26) = W2 at *
  have bk0_W2 := (ab_W2.cell bkL_W1).trans bk0_W1
  have bk1_W2 := (ab_W2.cell bkL_W1).trans bk1_W1
  have bkF_W2 : ∀ o, W2.frozen? ⟨w.heap.size, o, none⟩ = false := fun o => (ab_W2.frozen bkL_W1).trans (bkF_W1 o)
  have bkL_W2 : w.heap.size < W2.heap.size := Nat.lt_of_lt_of_le bkL_W1 ab_W2.size
  have acc_W2 := hidP (acc_W1.out.trans (ab_W2.mono acc_W1.out.size))
  have sz_W2 : Hid (W1.heap.size ≤ W2.heap.size) := hidP ab_W2.size
  clear ab_W2 bk0_W1 bk1_W1 bkF_W1 bkL_W1 acc_W1
  rw [as_W1.out] at rs0_W2 rs1_W2 rsL_W2
  have rsF_W2' : ∀ o, W2.frozen? ⟨w.heap.size + 1, o, none⟩ = false := fun o => by have := rsF_W2 o; rw [as_W1.out] at this; exact this
  clear rsF_W2
  have rsF_W2 := rsF_W2'
  clear rsF_W2'
  refine (HOw.out _ acc_W2.out).mono ?_
  rintro e w3 ⟨a3, c3, b3, d3, rfl, og3, oh3, nq3, hb3⟩
  have OX := hidP (And.intro og3 (And.intro oh3 nq3))
  clear og3 oh3 nq3
  have bk0_w3 := (hb3.cell bkL_W2).trans bk0_W2
  have bk1_w3 := (hb3.cell bkL_W2).trans bk1_W2
  have bkF_w3 : ∀ o, w3.frozen? ⟨w.heap.size, o, none⟩ = false := fun o => (hb3.frozen bkL_W2).trans (bkF_W2 o)
  have bkL_w3 : w.heap.size < w3.heap.size := Nat.lt_of_lt_of_le bkL_W2 hb3.size
  have rs0_w3 := (hb3.cell rsL_W2).trans rs0_W2
  have rs1_w3 := (hb3.cell rsL_W2).trans rs1_W2
  have rsF_w3 : ∀ o, w3.frozen? ⟨w.heap.size + 1, o, none⟩ = false := fun o => (hb3.frozen rsL_W2).trans (rsF_W2 o)
  have rsL_w3 : w.heap.size + 1 < w3.heap.size := Nat.lt_of_lt_of_le rsL_W2 hb3.size
  have acc_w3 := hidP (acc_W2.out.trans (hb3.mono acc_W2.out.size))
  have sz_w3 : Hid (W2.heap.size ≤ w3.heap.size) := hidP hb3.size
  clear hb3 bk0_W2 bk1_W2 bkF_W2 bkL_W2 rs0_W2 rs1_W2 rsF_W2 rsL_W2 acc_W2
  have oP_w3 := hidP (OX.out.1)
  have lhP : Hid (∀ k, (Value.slice a3 np c3).ownBlock = some k → W2.heap.size ≤ k ∧ k < w3.heap.size) := hidP (fun k hk => OwnG.lt oP_w3.out k hk)
  have oQ_w3 := hidP (OX.out.2.1)
  have lhQ : Hid (∀ k, (Value.slice b3 nb d3).ownBlock = some k → W2.heap.size ≤ k ∧ k < w3.heap.size) := hidP (fun k hk => OwnG.lt oQ_w3.out k hk)
  have ne3 := hidP OX.out.2.2
  clear OX
  go_wp2_with fail
  obtain ⟨ou0_W4, ou1_W4⟩ := box2D w3 26 (.slice a3 np c3) (.slice b3 nb d3)
  have ouF_W4 : ∀ o, (w3.alloc (.cells #[.slice a3 np c3, .slice b3 nb d3] 26)).frozen? ⟨w3.heap.size, o, none⟩ = false := fun o => by simp [go_sem]
  have ouL_W4 : w3.heap.size < (w3.alloc (.cells #[.slice a3 np c3, .slice b3 nb d3] 26)).heap.size := by simp
  have ab_W4 := alloc_below w3 (.cells #[.slice a3 np c3, .slice b3 nb d3] 26)
  have as_W4 : Hid ((w3.alloc (.cells #[.slice a3 np c3, .slice b3 nb d3] 26)).heap.size = w3.heap.size + 1) := hidP (by simp)
  generalize w3.alloc (.cells #[.slice a3 np c3, .slice b3 nb d3] 26) = W4 at *
  have bk0_W4 := (ab_W4.cell bkL_w3).trans bk0_w3
  have bk1_W4 := (ab_W4.cell bkL_w3).trans bk1_w3
  have bkF_W4 : ∀ o, W4.frozen? ⟨w.heap.size, o, none⟩ = false := fun o => (ab_W4.frozen bkL_w3).trans (bkF_w3 o)
  have bkL_W4 : w.heap.size < W4.heap.size := Nat.lt_of_lt_of_le bkL_w3 ab_W4.size
  have rs0_W4 := (ab_W4.cell rsL_w3).trans rs0_w3
  have rs1_W4 := (ab_W4.cell rsL_w3).trans rs1_w3
  have rsF_W4 : ∀ o, W4.frozen? ⟨w.heap.size + 1, o, none⟩ = false := fun o => (ab_W4.frozen rsL_w3).trans (rsF_w3 o)
  have rsL_W4 : w.heap.size + 1 < W4.heap.size := Nat.lt_of_lt_of_le rsL_w3 ab_W4.size
  have oP_W4 := hidP (OwnG.later oP_w3.out ab_W4)
  have oQ_W4 := hidP (OwnG.later oQ_w3.out ab_W4)
  have acc_W4 := hidP (acc_w3.out.trans (ab_W4.mono acc_w3.out.size))
  have sz_W4 : Hid (w3.heap.size ≤ W4.heap.size) := hidP ab_W4.size
  clear ab_W4 bk0_w3 bk1_w3 bkF_w3 bkL_w3 rs0_w3 rs1_w3 rsF_w3 rsL_w3 oP_w3 oQ_w3 acc_w3
  refine (HIm.out _ acc_W4.out).mono ?_
  rintro e w5 ⟨rfl, hb_w5⟩
  have bk0_w5 := (hb_w5.cell bkL_W4).trans bk0_W4
  have bk1_w5 := (hb_w5.cell bkL_W4).trans bk1_W4
  have bkF_w5 : ∀ o, w5.frozen? ⟨w.heap.size, o, none⟩ = false := fun o => (hb_w5.frozen bkL_W4).trans (bkF_W4 o)
  have bkL_w5 : w.heap.size < w5.heap.size := Nat.lt_of_lt_of_le bkL_W4 hb_w5.size
  have rs0_w5 := (hb_w5.cell rsL_W4).trans rs0_W4
  have rs1_w5 := (hb_w5.cell rsL_W4).trans rs1_W4
  have rsF_w5 : ∀ o, w5.frozen? ⟨w.heap.size + 1, o, none⟩ = false := fun o => (hb_w5.frozen rsL_W4).trans (rsF_W4 o)
  have rsL_w5 : w.heap.size + 1 < w5.heap.size := Nat.lt_of_lt_of_le rsL_W4 hb_w5.size
  have ou0_w5 := (hb_w5.cell ouL_W4).trans ou0_W4
  have ou1_w5 := (hb_w5.cell ouL_W4).trans ou1_W4
  have ouF_w5 : ∀ o, w5.frozen? ⟨w3.heap.size, o, none⟩ = false := fun o => (hb_w5.frozen ouL_W4).trans (ouF_W4 o)
  have ouL_w5 : w3.heap.size < w5.heap.size := Nat.lt_of_lt_of_le ouL_W4 hb_w5.size
  have oP_w5 := hidP (OwnG.later oP_W4.out hb_w5)
  have oQ_w5 := hidP (OwnG.later oQ_W4.out hb_w5)
  have acc_w5 := hidP (acc_W4.out.trans (hb_w5.mono acc_W4.out.size))
  have sz_w5 : Hid (W4.heap.size ≤ w5.heap.size) := hidP hb_w5.size
  clear hb_w5 bk0_W4 bk1_W4 bkF_W4 bkL_W4 rs0_W4 rs1_W4 rsF_W4 rsL_W4 ou0_W4 ou1_W4 ouF_W4 ouL_W4 oP_W4 oQ_W4 acc_W4
  go_wp2_with fail
  refine (HId.out _ acc_w5.out).mono ?_
  rintro e w6 ⟨rfl, hb_w6⟩
  have bk0_w6 := (hb_w6.cell bkL_w5).trans bk0_w5
  have bk1_w6 := (hb_w6.cell bkL_w5).trans bk1_w5
  have bkF_w6 : ∀ o, w6.frozen? ⟨w.heap.size, o, none⟩ = false := fun o => (hb_w6.frozen bkL_w5).trans (bkF_w5 o)
  have bkL_w6 : w.heap.size < w6.heap.size := Nat.lt_of_lt_of_le bkL_w5 hb_w6.size
  have rs0_w6 := (hb_w6.cell rsL_w5).trans rs0_w5
  have rs1_w6 := (hb_w6.cell rsL_w5).trans rs1_w5
  have rsF_w6 : ∀ o, w6.frozen? ⟨w.heap.size + 1, o, none⟩ = false := fun o => (hb_w6.frozen rsL_w5).trans (rsF_w5 o)
  have rsL_w6 : w.heap.size + 1 < w6.heap.size := Nat.lt_of_lt_of_le rsL_w5 hb_w6.size
  have ou0_w6 := (hb_w6.cell ouL_w5).trans ou0_w5
  have ou1_w6 := (hb_w6.cell ouL_w5).trans ou1_w5
  have ouF_w6 : ∀ o, w6.frozen? ⟨w3.heap.size, o, none⟩ = false := fun o => (hb_w6.frozen ouL_w5).trans (ouF_w5 o)
  have ouL_w6 : w3.heap.size < w6.heap.size := Nat.lt_of_lt_of_le ouL_w5 hb_w6.size
  have oP_w6 := hidP (OwnG.later oP_w5.out hb_w6)
  have oQ_w6 := hidP (OwnG.later oQ_w5.out hb_w6)
  have acc_w6 := hidP (acc_w5.out.trans (hb_w6.mono acc_w5.out.size))
  have sz_w6 : Hid (w5.heap.size ≤ w6.heap.size) := hidP hb_w6.size
  clear hb_w6 bk0_w5 bk1_w5 bkF_w5 bkL_w5 rs0_w5 rs1_w5 rsF_w5 rsL_w5 ou0_w5 ou1_w5 ouF_w5 ouL_w5 oP_w5 oQ_w5 acc_w5
  go_wp2_with fail
  refine bodyPost_ret (v := .tuple #[.agg #[.slice a3 np c3, .slice b3 nb d3], .bool false]) (by simp [results, Try.results20, go_sem, rs0_w6, rs1_w6]) rfl ⟨_, _, _, _, rfl, ?_, ?_, ne3.out, ?_⟩
  · refine OwnG.mono (B := W2.heap.size) ?_ (by have := as_W1.out; have := sz_W1.out; have := as_W2.out; have := sz_W2.out; have := sz_w3.out; have := as_W4.out; have := sz_W4.out; have := sz_w5.out; have := sz_w6.out; omega)
    iterate 2 (with_reducible refine OwnG.grown ?_ (grown_cellG _ _ _ _) ?_; rotate_left; (focus (exact OwnG.ne_of oP_w6.out (by have := as_W1.out; have := sz_W1.out; have := as_W2.out; have := sz_W2.out; have := sz_w3.out; have := as_W4.out; have := sz_W4.out; have := sz_w5.out; have := sz_w6.out; omega))))
    with_reducible exact oP_w6.out
  · refine OwnG.mono (B := W2.heap.size) ?_ (by have := as_W1.out; have := sz_W1.out; have := as_W2.out; have := sz_W2.out; have := sz_w3.out; have := as_W4.out; have := sz_W4.out; have := sz_w5.out; have := sz_w6.out; omega)
    iterate 2 (with_reducible refine OwnG.grown ?_ (grown_cellG _ _ _ _) ?_; rotate_left; (focus (exact OwnG.ne_of oQ_w6.out (by have := as_W1.out; have := sz_W1.out; have := as_W2.out; have := sz_W2.out; have := sz_w3.out; have := as_W4.out; have := sz_W4.out; have := sz_w5.out; have := sz_w6.out; omega))))
    with_reducible exact oQ_w6.out
  · repeat (with_reducible refine Below.setCell ?_ ?_ _; rotate_left; (focus (first | (simp; done) | (simp; omega) | (dsimp only; have := as_W1.out; have := sz_W1.out; have := as_W2.out; have := sz_W2.out; have := sz_w3.out; have := as_W4.out; have := sz_W4.out; have := sz_w5.out; have := sz_w6.out; omega))))
    exact acc_w6.out

set_option maxRecDepth 10000 in
set_option maxHeartbeats 2000000 in
theorem sJ_mt (g h j np nb m : Nat) (ps bs qs : List Int) (w : World) (hnp : np = ps.length) (hnb : nb = bs.length) (hP : RowG KI w (some ⟨g, 0, none⟩) ps) (hK : RowG KI w (some ⟨h, 0, none⟩) bs) (hl : np ≤ 1048576) (hl' : nb ≤ 1048576) (hm : m = qs.length) (hQ : RowG KI w (some ⟨j, 0, none⟩) qs) (hl3 : m ≤ 1048576) (hr : grB ps bs = true) (hj : nb = 0) (hi : idsB 0 qs = true) (h0 : m = 0) :
    Calls Try.prog 20 #[.agg #[.slice (some ⟨g, 0, none⟩) np np, .slice (some ⟨h, 0, none⟩) nb nb], .slice (some ⟨j, 0, none⟩) m m] w fun e w' => ∃ a c b d, e = .returned (.tuple #[.agg #[.slice a np c, .slice b nb d], .bool false]) ∧ OwnG KI 3 w' w.heap.size (.slice a np c) ps ∧ OwnG KI 3 w' w.heap.size (.slice b nb d) bs ∧ (∀ k, (Value.slice a np c).ownBlock = some k → (Value.slice b nb d).ownBlock ≠ some k) ∧ Below w.heap.size w w' := by
  have HOw := hidP (fun W h9 => l12Copy_any (some ⟨g, 0, none⟩) np np (some ⟨h, 0, none⟩) nb nb ps bs W hnp hnb (hP.later h9) (hK.later h9) (fun h => by cases h) (fun h => by cases h) hl hl')
  have HIm := hidP (fun W h9 => sGroupOk_any (some ⟨g, 0, none⟩) np np (some ⟨h, 0, none⟩) nb nb ps bs W hnp hnb (hP.later h9) (hK.later h9) hl hl')
  rw [hr] at HIm
  have dj : decide ((0 : Int) < (nb : Int)) = false := decide_eq_false (by omega)
  have dj2 : decide (0 < nb) = false := decide_eq_false (by omega)
  have HZj := hidP hj
  clear hj
  have HId := hidP (fun W h9 => l12Ids_any (some ⟨j, 0, none⟩) m m qs W hm (hQ.later h9) hl3)
  rw [hi] at HId
  clear hi
  have ej : ((m : Int) == 0) = true := by simp [h0]
  have HZm := hidP h0
  clear h0
  clear hP hK hQ hnp hnb hm hr
  go_enter Try.func20, Try.ntmps20
  go_wp2_with fail
  obtain ⟨bk0_W1, bk1_W1⟩ := box2D w 26 (.slice (some ⟨g, 0, none⟩) np np) (.slice (some ⟨h, 0, none⟩) nb nb)
  have bkF_W1 : ∀ o, (w.alloc (.cells #[.slice (some ⟨g, 0, none⟩) np np, .slice (some ⟨h, 0, none⟩) nb nb] 26)).frozen? ⟨w.heap.size, o, none⟩ = false := fun o => by simp [go_sem]
  have bkL_W1 : w.heap.size < (w.alloc (.cells #[.slice (some ⟨g, 0, none⟩) np np, .slice (some ⟨h, 0, none⟩) nb nb] 26)).heap.size := by simp
  have ab_W1 := alloc_below w (.cells #[.slice (some ⟨g, 0, none⟩) np np, .slice (some ⟨h, 0, none⟩) nb nb] 26)
  have as_W1 : Hid ((w.alloc (.cells #[.slice (some ⟨g, 0, none⟩) np np, .slice (some ⟨h, 0, none⟩) nb nb] 26)).heap.size = w.heap.size + 1) := hidP (by simp)
  generalize w.alloc (.cells #[.slice (some ⟨g, 0, none⟩) np np, .slice (some ⟨h, 0, none⟩) nb nb] 26) = W1 at *
  have acc_W1 := hidP (ab_W1)
  have sz_W1 : Hid (w.heap.size ≤ W1.heap.size) := hidP ab_W1.size
  clear ab_W1 
  obtain ⟨rs0_W2, rs1_W2⟩ := box2D W1 26 (.slice none 0 0) (.slice none 0 0)
  have rsF_W2 : ∀ o, (W1.alloc (.cells #[.slice none 0 0, .slice none 0 0] 26)).frozen? ⟨W1.heap.size, o, none⟩ = false := fun o => by simp [go_sem]
  have rsL_W2 : W1.heap.size < (W1.alloc (.cells #[.slice none 0 0, .slice none 0 0] 26)).heap.size := by simp
  have ab_W2 := alloc_below W1 (.cells #[.slice none 0 0, .slice none 0 0] 26)
  have as_W2 : Hid ((W1.alloc (.cells #[.slice none 0 0, .slice none 0 0] 26)).heap.size = W1.heap.size + 1) := hidP (by simp)
  generalize W1.alloc (.cells #[.slice none 0 0, .slice none 0 0] 26) = W2 at *
  have bk0_W2 := (ab_W2.cell bkL_W1).trans bk0_W1
  have bk1_W2 := (ab_W2.cell bkL_W1).trans bk1_W1
  have bkF_W2 : ∀ o, W2.frozen? ⟨w.heap.size, o, none⟩ = false := fun o => (ab_W2.frozen bkL_W1).trans (bkF_W1 o)
  have bkL_W2 : w.heap.size < W2.heap.size := Nat.lt_of_lt_of_le bkL_W1 ab_W2.size
  have acc_W2 := hidP (acc_W1.out.trans (ab_W2.mono acc_W1.out.size))
  have sz_W2 : Hid (W1.heap.size ≤ W2.heap.size) := hidP ab_W2.size
  clear ab_W2 bk0_W1 bk1_W1 bkF_W1 bkL_W1 acc_W1
  rw [as_W1.out] at rs0_W2 rs1_W2 rsL_W2
  have rsF_W2' : ∀ o, W2.frozen? ⟨w.heap.size + 1, o, none⟩ = false := fun o => by have := rsF_W2 o; rw [as_W1.out] at this; exact this
  clear rsF_W2
  have rsF_W2 := rsF_W2'
  clear rsF_W2'
  refine (HOw.out _ acc_W2.out).mono ?_
  rintro e w3 ⟨a3, c3, b3, d3, rfl, og3, oh3, nq3, hb3⟩
  have OX := hidP (And.intro og3 (And.intro oh3 nq3))
  clear og3 oh3 nq3
  have bk0_w3 := (hb3.cell bkL_W2).trans bk0_W2
  have bk1_w3 := (hb3.cell bkL_W2).trans bk1_W2
  have bkF_w3 : ∀ o, w3.frozen? ⟨w.heap.size, o, none⟩ = false := fun o => (hb3.frozen bkL_W2).trans (bkF_W2 o)
  have bkL_w3 : w.heap.size < w3.heap.size := Nat.lt_of_lt_of_le bkL_W2 hb3.size
  have rs0_w3 := (hb3.cell rsL_W2).trans rs0_W2
  have rs1_w3 := (hb3.cell rsL_W2).trans rs1_W2
  have rsF_w3 : ∀ o, w3.frozen? ⟨w.heap.size + 1, o, none⟩ = false := fun o => (hb3.frozen rsL_W2).trans (rsF_W2 o)
  have rsL_w3 : w.heap.size + 1 < w3.heap.size := Nat.lt_of_lt_of_le rsL_W2 hb3.size
  have acc_w3 := hidP (acc_W2.out.trans (hb3.mono acc_W2.out.size))
  have sz_w3 : Hid (W2.heap.size ≤ w3.heap.size) := hidP hb3.size
  clear hb3 bk0_W2 bk1_W2 bkF_W2 bkL_W2 rs0_W2 rs1_W2 rsF_W2 rsL_W2 acc_W2
  have oP_w3 := hidP (OX.out.1)
  have lhP : Hid (∀ k, (Value.slice a3 np c3).ownBlock = some k → W2.heap.size ≤ k ∧ k < w3.heap.size) := hidP (fun k hk => OwnG.lt oP_w3.out k hk)
  have oQ_w3 := hidP (OX.out.2.1)
  have lhQ : Hid (∀ k, (Value.slice b3 nb d3).ownBlock = some k → W2.heap.size ≤ k ∧ k < w3.heap.size) := hidP (fun k hk => OwnG.lt oQ_w3.out k hk)
  have ne3 := hidP OX.out.2.2
  clear OX
  go_wp2_with fail
  obtain ⟨ou0_W4, ou1_W4⟩ := box2D w3 26 (.slice a3 np c3) (.slice b3 nb d3)
  have ouF_W4 : ∀ o, (w3.alloc (.cells #[.slice a3 np c3, .slice b3 nb d3] 26)).frozen? ⟨w3.heap.size, o, none⟩ = false := fun o => by simp [go_sem]
  have ouL_W4 : w3.heap.size < (w3.alloc (.cells #[.slice a3 np c3, .slice b3 nb d3] 26)).heap.size := by simp
  have ab_W4 := alloc_below w3 (.cells #[.slice a3 np c3, .slice b3 nb d3] 26)
  have as_W4 : Hid ((w3.alloc (.cells #[.slice a3 np c3, .slice b3 nb d3] 26)).heap.size = w3.heap.size + 1) := hidP (by simp)
  generalize w3.alloc (.cells #[.slice a3 np c3, .slice b3 nb d3] 26) = W4 at *
  have bk0_W4 := (ab_W4.cell bkL_w3).trans bk0_w3
  have bk1_W4 := (ab_W4.cell bkL_w3).trans bk1_w3
  have bkF_W4 : ∀ o, W4.frozen? ⟨w.heap.size, o, none⟩ = false := fun o => (ab_W4.frozen bkL_w3).trans (bkF_w3 o)
  have bkL_W4 : w.heap.size < W4.heap.size := Nat.lt_of_lt_of_le bkL_w3 ab_W4.size
  have rs0_W4 := (ab_W4.cell rsL_w3).trans rs0_w3
  have rs1_W4 := (ab_W4.cell rsL_w3).trans rs1_w3
  have rsF_W4 : ∀ o, W4.frozen? ⟨w.heap.size + 1, o, none⟩ = false := fun o => (ab_W4.frozen rsL_w3).trans (rsF_w3 o)
  have rsL_W4 : w.heap.size + 1 < W4.heap.size := Nat.lt_of_lt_of_le rsL_w3 ab_W4.size
  have oP_W4 := hidP (OwnG.later oP_w3.out ab_W4)
  have oQ_W4 := hidP (OwnG.later oQ_w3.out ab_W4)
  have acc_W4 := hidP (acc_w3.out.trans (ab_W4.mono acc_w3.out.size))
  have sz_W4 : Hid (w3.heap.size ≤ W4.heap.size) := hidP ab_W4.size
  clear ab_W4 bk0_w3 bk1_w3 bkF_w3 bkL_w3 rs0_w3 rs1_w3 rsF_w3 rsL_w3 oP_w3 oQ_w3 acc_w3
  refine (HIm.out _ acc_W4.out).mono ?_
  rintro e w5 ⟨rfl, hb_w5⟩
  have bk0_w5 := (hb_w5.cell bkL_W4).trans bk0_W4
  have bk1_w5 := (hb_w5.cell bkL_W4).trans bk1_W4
  have bkF_w5 : ∀ o, w5.frozen? ⟨w.heap.size, o, none⟩ = false := fun o => (hb_w5.frozen bkL_W4).trans (bkF_W4 o)
  have bkL_w5 : w.heap.size < w5.heap.size := Nat.lt_of_lt_of_le bkL_W4 hb_w5.size
  have rs0_w5 := (hb_w5.cell rsL_W4).trans rs0_W4
  have rs1_w5 := (hb_w5.cell rsL_W4).trans rs1_W4
  have rsF_w5 : ∀ o, w5.frozen? ⟨w.heap.size + 1, o, none⟩ = false := fun o => (hb_w5.frozen rsL_W4).trans (rsF_W4 o)
  have rsL_w5 : w.heap.size + 1 < w5.heap.size := Nat.lt_of_lt_of_le rsL_W4 hb_w5.size
  have ou0_w5 := (hb_w5.cell ouL_W4).trans ou0_W4
  have ou1_w5 := (hb_w5.cell ouL_W4).trans ou1_W4
  have ouF_w5 : ∀ o, w5.frozen? ⟨w3.heap.size, o, none⟩ = false := fun o => (hb_w5.frozen ouL_W4).trans (ouF_W4 o)
  have ouL_w5 : w3.heap.size < w5.heap.size := Nat.lt_of_lt_of_le ouL_W4 hb_w5.size
  have oP_w5 := hidP (OwnG.later oP_W4.out hb_w5)
  have oQ_w5 := hidP (OwnG.later oQ_W4.out hb_w5)
  have acc_w5 := hidP (acc_W4.out.trans (hb_w5.mono acc_W4.out.size))
  have sz_w5 : Hid (W4.heap.size ≤ w5.heap.size) := hidP hb_w5.size
  clear hb_w5 bk0_W4 bk1_W4 bkF_W4 bkL_W4 rs0_W4 rs1_W4 rsF_W4 rsL_W4 ou0_W4 ou1_W4 ouF_W4 ouL_W4 oP_W4 oQ_W4 acc_W4
  go_wp2_with fail
  refine (HId.out _ acc_w5.out).mono ?_
  rintro e w6 ⟨rfl, hb_w6⟩
  have bk0_w6 := (hb_w6.cell bkL_w5).trans bk0_w5
  have bk1_w6 := (hb_w6.cell bkL_w5).trans bk1_w5
  have bkF_w6 : ∀ o, w6.frozen? ⟨w.heap.size, o, none⟩ = false := fun o => (hb_w6.frozen bkL_w5).trans (bkF_w5 o)
  have bkL_w6 : w.heap.size < w6.heap.size := Nat.lt_of_lt_of_le bkL_w5 hb_w6.size
  have rs0_w6 := (hb_w6.cell rsL_w5).trans rs0_w5
  have rs1_w6 := (hb_w6.cell rsL_w5).trans rs1_w5
  have rsF_w6 : ∀ o, w6.frozen? ⟨w.heap.size + 1, o, none⟩ = false := fun o => (hb_w6.frozen rsL_w5).trans (rsF_w5 o)
  have rsL_w6 : w.heap.size + 1 < w6.heap.size := Nat.lt_of_lt_of_le rsL_w5 hb_w6.size
  have ou0_w6 := (hb_w6.cell ouL_w5).trans ou0_w5
  have ou1_w6 := (hb_w6.cell ouL_w5).trans ou1_w5
  have ouF_w6 : ∀ o, w6.frozen? ⟨w3.heap.size, o, none⟩ = false := fun o => (hb_w6.frozen ouL_w5).trans (ouF_w5 o)
  have ouL_w6 : w3.heap.size < w6.heap.size := Nat.lt_of_lt_of_le ouL_w5 hb_w6.size
  have oP_w6 := hidP (OwnG.later oP_w5.out hb_w6)
  have oQ_w6 := hidP (OwnG.later oQ_w5.out hb_w6)
  have acc_w6 := hidP (acc_w5.out.trans (hb_w6.mono acc_w5.out.size))
  have sz_w6 : Hid (w5.heap.size ≤ w6.heap.size) := hidP hb_w6.size
  clear hb_w6 bk0_w5 bk1_w5 bkF_w5 bkL_w5 rs0_w5 rs1_w5 rsF_w5 rsL_w5 ou0_w5 ou1_w5 ouF_w5 ouL_w5 oP_w5 oQ_w5 acc_w5
  go_wp2_with fail
  refine bodyPost_ret (v := .tuple #[.agg #[.slice a3 np c3, .slice b3 nb d3], .bool false]) (by simp [results, Try.results20, go_sem, rs0_w6, rs1_w6]) rfl ⟨_, _, _, _, rfl, ?_, ?_, ne3.out, ?_⟩
  · refine OwnG.mono (B := W2.heap.size) ?_ (by have := as_W1.out; have := sz_W1.out; have := as_W2.out; have := sz_W2.out; have := sz_w3.out; have := as_W4.out; have := sz_W4.out; have := sz_w5.out; have := sz_w6.out; omega)
    iterate 2 (with_reducible refine OwnG.grown ?_ (grown_cellG _ _ _ _) ?_; rotate_left; (focus (exact OwnG.ne_of oP_w6.out (by have := as_W1.out; have := sz_W1.out; have := as_W2.out; have := sz_W2.out; have := sz_w3.out; have := as_W4.out; have := sz_W4.out; have := sz_w5.out; have := sz_w6.out; omega))))
    with_reducible exact oP_w6.out
  · refine OwnG.mono (B := W2.heap.size) ?_ (by have := as_W1.out; have := sz_W1.out; have := as_W2.out; have := sz_W2.out; have := sz_w3.out; have := as_W4.out; have := sz_W4.out; have := sz_w5.out; have := sz_w6.out; omega)
    iterate 2 (with_reducible refine OwnG.grown ?_ (grown_cellG _ _ _ _) ?_; rotate_left; (focus (exact OwnG.ne_of oQ_w6.out (by have := as_W1.out; have := sz_W1.out; have := as_W2.out; have := sz_W2.out; have := sz_w3.out; have := as_W4.out; have := sz_W4.out; have := sz_w5.out; have := sz_w6.out; omega))))
    with_reducible exact oQ_w6.out
  · repeat (with_reducible refine Below.setCell ?_ ?_ _; rotate_left; (focus (first | (simp; done) | (simp; omega) | (dsimp only; have := as_W1.out; have := sz_W1.out; have := as_W2.out; have := sz_W2.out; have := sz_w3.out; have := as_W4.out; have := sz_W4.out; have := sz_w5.out; have := sz_w6.out; omega))))
    exact acc_w6.out

set_option maxRecDepth 10000 in
set_option maxHeartbeats 2000000 in
theorem sJ_eq (g h j np nb m : Nat) (ps bs qs : List Int) (w : World) (hnp : np = ps.length) (hnb : nb = bs.length) (hP : RowG KI w (some ⟨g, 0, none⟩) ps) (hK : RowG KI w (some ⟨h, 0, none⟩) bs) (hl : np ≤ 1048576) (hl' : nb ≤ 1048576) (hm : m = qs.length) (hQ : RowG KI w (some ⟨j, 0, none⟩) qs) (hl3 : m ≤ 1048576) (hr : grB ps bs = true) (hj : nb = 0) (hi : idsB 0 qs = true) (h0 : 0 < m) (he : eqZ qs ps = true) :
    Calls Try.prog 20 #[.agg #[.slice (some ⟨g, 0, none⟩) np np, .slice (some ⟨h, 0, none⟩) nb nb], .slice (some ⟨j, 0, none⟩) m m] w fun e w' => ∃ a c b d, e = .returned (.tuple #[.agg #[.slice a np c, .slice b nb d], .bool false]) ∧ OwnG KI 3 w' w.heap.size (.slice a np c) ps ∧ OwnG KI 3 w' w.heap.size (.slice b nb d) bs ∧ (∀ k, (Value.slice a np c).ownBlock = some k → (Value.slice b nb d).ownBlock ≠ some k) ∧ Below w.heap.size w w' := by
  have HOw := hidP (fun W h9 => l12Copy_any (some ⟨g, 0, none⟩) np np (some ⟨h, 0, none⟩) nb nb ps bs W hnp hnb (hP.later h9) (hK.later h9) (fun h => by cases h) (fun h => by cases h) hl hl')
  have HIm := hidP (fun W h9 => sGroupOk_any (some ⟨g, 0, none⟩) np np (some ⟨h, 0, none⟩) nb nb ps bs W hnp hnb (hP.later h9) (hK.later h9) hl hl')
  rw [hr] at HIm
  have dj : decide ((0 : Int) < (nb : Int)) = false := decide_eq_false (by omega)
  have dj2 : decide (0 < nb) = false := decide_eq_false (by omega)
  have HZj := hidP hj
  clear hj
  have HId := hidP (fun W h9 => l12Ids_any (some ⟨j, 0, none⟩) m m qs W hm (hQ.later h9) hl3)
  rw [hi] at HId
  clear hi
  have ej : ((m : Int) == 0) = false := by simp; omega
  have HSa := hidP (fun W h9 => l12Same_any (some ⟨j, 0, none⟩) (some ⟨g, 0, none⟩) m m np np qs ps W hm hnp (hQ.later h9) (hP.later h9) hl3 hl)
  rw [he] at HSa
  clear he
  clear hP hK hQ hnp hnb hm hr
  go_enter Try.func20, Try.ntmps20
  go_wp2_with fail
  obtain ⟨bk0_W1, bk1_W1⟩ := box2D w 26 (.slice (some ⟨g, 0, none⟩) np np) (.slice (some ⟨h, 0, none⟩) nb nb)
  have bkF_W1 : ∀ o, (w.alloc (.cells #[.slice (some ⟨g, 0, none⟩) np np, .slice (some ⟨h, 0, none⟩) nb nb] 26)).frozen? ⟨w.heap.size, o, none⟩ = false := fun o => by simp [go_sem]
  have bkL_W1 : w.heap.size < (w.alloc (.cells #[.slice (some ⟨g, 0, none⟩) np np, .slice (some ⟨h, 0, none⟩) nb nb] 26)).heap.size := by simp
  have ab_W1 := alloc_below w (.cells #[.slice (some ⟨g, 0, none⟩) np np, .slice (some ⟨h, 0, none⟩) nb nb] 26)
  have as_W1 : Hid ((w.alloc (.cells #[.slice (some ⟨g, 0, none⟩) np np, .slice (some ⟨h, 0, none⟩) nb nb] 26)).heap.size = w.heap.size + 1) := hidP (by simp)
  generalize w.alloc (.cells #[.slice (some ⟨g, 0, none⟩) np np, .slice (some ⟨h, 0, none⟩) nb nb] 26) = W1 at *
  have acc_W1 := hidP (ab_W1)
  have sz_W1 : Hid (w.heap.size ≤ W1.heap.size) := hidP ab_W1.size
  clear ab_W1 
  obtain ⟨rs0_W2, rs1_W2⟩ := box2D W1 26 (.slice none 0 0) (.slice none 0 0)
  have rsF_W2 : ∀ o, (W1.alloc (.cells #[.slice none 0 0, .slice none 0 0] 26)).frozen? ⟨W1.heap.size, o, none⟩ = false := fun o => by simp [go_sem]
  have rsL_W2 : W1.heap.size < (W1.alloc (.cells #[.slice none 0 0, .slice none 0 0] 26)).heap.size := by simp
  have ab_W2 := alloc_below W1 (.cells #[.slice none 0 0, .slice none 0 0] 26)
  have as_W2 : Hid ((W1.alloc (.cells #[.slice none 0 0, .slice none 0 0] 26)).heap.size = W1.heap.size + 1) := hidP (by simp)
  generalize W1.alloc (.cells #[.slice none 0 0, .slice none 0 0] 26) = W2 at *
  have bk0_W2 := (ab_W2.cell bkL_W1).trans bk0_W1
  have bk1_W2 := (ab_W2.cell bkL_W1).trans bk1_W1
  have bkF_W2 : ∀ o, W2.frozen? ⟨w.heap.size, o, none⟩ = false := fun o => (ab_W2.frozen bkL_W1).trans (bkF_W1 o)
  have bkL_W2 : w.heap.size < W2.heap.size := Nat.lt_of_lt_of_le bkL_W1 ab_W2.size
  have acc_W2 := hidP (acc_W1.out.trans (ab_W2.mono acc_W1.out.size))
  have sz_W2 : Hid (W1.heap.size ≤ W2.heap.size) := hidP ab_W2.size
  clear ab_W2 bk0_W1 bk1_W1 bkF_W1 bkL_W1 acc_W1
  rw [as_W1.out] at rs0_W2 rs1_W2 rsL_W2
  have rsF_W2' : ∀ o, W2.frozen? ⟨w.heap.size + 1, o, none⟩ = false := fun o => by have := rsF_W2 o; rw [as_W1.out] at this; exact this
  clear rsF_W2
  have rsF_W2 := rsF_W2'
  clear rsF_W2'
  refine (HOw.out _ acc_W2.out).mono ?_
  rintro e w3 ⟨a3, c3, b3, d3, rfl, og3, oh3, nq3, hb3⟩
  have OX := hidP (And.intro og3 (And.intro oh3 nq3))
  clear og3 oh3 nq3
  have bk0_w3 := (hb3.cell bkL_W2).trans bk0_W2
  have bk1_w3 := (hb3.cell bkL_W2).trans bk1_W2
  have bkF_w3 : ∀ o, w3.frozen? ⟨w.heap.size, o, none⟩ = false := fun o => (hb3.frozen bkL_W2).trans (bkF_W2 o)
  have bkL_w3 : w.heap.size < w3.heap.size := Nat.lt_of_lt_of_le bkL_W2 hb3.size
  have rs0_w3 := (hb3.cell rsL_W2).trans rs0_W2
  have rs1_w3 := (hb3.cell rsL_W2).trans rs1_W2
  have rsF_w3 : ∀ o, w3.frozen? ⟨w.heap.size + 1, o, none⟩ = false := fun o => (hb3.frozen rsL_W2).trans (rsF_W2 o)
  have rsL_w3 : w.heap.size + 1 < w3.heap.size := Nat.lt_of_lt_of_le rsL_W2 hb3.size
  have acc_w3 := hidP (acc_W2.out.trans (hb3.mono acc_W2.out.size))
  have sz_w3 : Hid (W2.heap.size ≤ w3.heap.size) := hidP hb3.size
  clear hb3 bk0_W2 bk1_W2 bkF_W2 bkL_W2 rs0_W2 rs1_W2 rsF_W2 rsL_W2 acc_W2
  have oP_w3 := hidP (OX.out.1)
  have lhP : Hid (∀ k, (Value.slice a3 np c3).ownBlock = some k → W2.heap.size ≤ k ∧ k < w3.heap.size) := hidP (fun k hk => OwnG.lt oP_w3.out k hk)
  have oQ_w3 := hidP (OX.out.2.1)
  have lhQ : Hid (∀ k, (Value.slice b3 nb d3).ownBlock = some k → W2.heap.size ≤ k ∧ k < w3.heap.size) := hidP (fun k hk => OwnG.lt oQ_w3.out k hk)
  have ne3 := hidP OX.out.2.2
  clear OX
  go_wp2_with fail
  obtain ⟨ou0_W4, ou1_W4⟩ := box2D w3 26 (.slice a3 np c3) (.slice b3 nb d3)
  have ouF_W4 : ∀ o, (w3.alloc (.cells #[.slice a3 np c3, .slice b3 nb d3] 26)).frozen? ⟨w3.heap.size, o, none⟩ = false := fun o => by simp [go_sem]
  have ouL_W4 : w3.heap.size < (w3.alloc (.cells #[.slice a3 np c3, .slice b3 nb d3] 26)).heap.size := by simp
  have ab_W4 := alloc_below w3 (.cells #[.slice a3 np c3, .slice b3 nb d3] 26)
  have as_W4 : Hid ((w3.alloc (.cells #[.slice a3 np c3, .slice b3 nb d3] 26)).heap.size = w3.heap.size + 1) := hidP (by simp)
  generalize w3.alloc (.cells #[.slice a3 np c3, .slice b3 nb d3] 26) = W4 at *
  have bk0_W4 := (ab_W4.cell bkL_w3).trans bk0_w3
  have bk1_W4 := (ab_W4.cell bkL_w3).trans bk1_w3
  have bkF_W4 : ∀ o, W4.frozen? ⟨w.heap.size, o, none⟩ = false := fun o => (ab_W4.frozen bkL_w3).trans (bkF_w3 o)
  have bkL_W4 : w.heap.size < W4.heap.size := Nat.lt_of_lt_of_le bkL_w3 ab_W4.size
  have rs0_W4 := (ab_W4.cell rsL_w3).trans rs0_w3
  have rs1_W4 := (ab_W4.cell rsL_w3).trans rs1_w3
  have rsF_W4 : ∀ o, W4.frozen? ⟨w.heap.size + 1, o, none⟩ = false := fun o => (ab_W4.frozen rsL_w3).trans (rsF_w3 o)
  have rsL_W4 : w.heap.size + 1 < W4.heap.size := Nat.lt_of_lt_of_le rsL_w3 ab_W4.size
  have oP_W4 := hidP (OwnG.later oP_w3.out ab_W4)
  have oQ_W4 := hidP (OwnG.later oQ_w3.out ab_W4)
  have acc_W4 := hidP (acc_w3.out.trans (ab_W4.mono acc_w3.out.size))
  have sz_W4 : Hid (w3.heap.size ≤ W4.heap.size) := hidP ab_W4.size
  clear ab_W4 bk0_w3 bk1_w3 bkF_w3 bkL_w3 rs0_w3 rs1_w3 rsF_w3 rsL_w3 oP_w3 oQ_w3 acc_w3
  refine (HIm.out _ acc_W4.out).mono ?_
  rintro e w5 ⟨rfl, hb_w5⟩
  have bk0_w5 := (hb_w5.cell bkL_W4).trans bk0_W4
  have bk1_w5 := (hb_w5.cell bkL_W4).trans bk1_W4
  have bkF_w5 : ∀ o, w5.frozen? ⟨w.heap.size, o, none⟩ = false := fun o => (hb_w5.frozen bkL_W4).trans (bkF_W4 o)
  have bkL_w5 : w.heap.size < w5.heap.size := Nat.lt_of_lt_of_le bkL_W4 hb_w5.size
  have rs0_w5 := (hb_w5.cell rsL_W4).trans rs0_W4
  have rs1_w5 := (hb_w5.cell rsL_W4).trans rs1_W4
  have rsF_w5 : ∀ o, w5.frozen? ⟨w.heap.size + 1, o, none⟩ = false := fun o => (hb_w5.frozen rsL_W4).trans (rsF_W4 o)
  have rsL_w5 : w.heap.size + 1 < w5.heap.size := Nat.lt_of_lt_of_le rsL_W4 hb_w5.size
  have ou0_w5 := (hb_w5.cell ouL_W4).trans ou0_W4
  have ou1_w5 := (hb_w5.cell ouL_W4).trans ou1_W4
  have ouF_w5 : ∀ o, w5.frozen? ⟨w3.heap.size, o, none⟩ = false := fun o => (hb_w5.frozen ouL_W4).trans (ouF_W4 o)
  have ouL_w5 : w3.heap.size < w5.heap.size := Nat.lt_of_lt_of_le ouL_W4 hb_w5.size
  have oP_w5 := hidP (OwnG.later oP_W4.out hb_w5)
  have oQ_w5 := hidP (OwnG.later oQ_W4.out hb_w5)
  have acc_w5 := hidP (acc_W4.out.trans (hb_w5.mono acc_W4.out.size))
  have sz_w5 : Hid (W4.heap.size ≤ w5.heap.size) := hidP hb_w5.size
  clear hb_w5 bk0_W4 bk1_W4 bkF_W4 bkL_W4 rs0_W4 rs1_W4 rsF_W4 rsL_W4 ou0_W4 ou1_W4 ouF_W4 ouL_W4 oP_W4 oQ_W4 acc_W4
  go_wp2_with fail
  refine (HId.out _ acc_w5.out).mono ?_
  rintro e w6 ⟨rfl, hb_w6⟩
  have bk0_w6 := (hb_w6.cell bkL_w5).trans bk0_w5
  have bk1_w6 := (hb_w6.cell bkL_w5).trans bk1_w5
  have bkF_w6 : ∀ o, w6.frozen? ⟨w.heap.size, o, none⟩ = false := fun o => (hb_w6.frozen bkL_w5).trans (bkF_w5 o)
  have bkL_w6 : w.heap.size < w6.heap.size := Nat.lt_of_lt_of_le bkL_w5 hb_w6.size
  have rs0_w6 := (hb_w6.cell rsL_w5).trans rs0_w5
  have rs1_w6 := (hb_w6.cell rsL_w5).trans rs1_w5
  have rsF_w6 : ∀ o, w6.frozen? ⟨w.heap.size + 1, o, none⟩ = false := fun o => (hb_w6.frozen rsL_w5).trans (rsF_w5 o)
  have rsL_w6 : w.heap.size + 1 < w6.heap.size := Nat.lt_of_lt_of_le rsL_w5 hb_w6.size
  have ou0_w6 := (hb_w6.cell ouL_w5).trans ou0_w5
  have ou1_w6 := (hb_w6.cell ouL_w5).trans ou1_w5
  have ouF_w6 : ∀ o, w6.frozen? ⟨w3.heap.size, o, none⟩ = false := fun o => (hb_w6.frozen ouL_w5).trans (ouF_w5 o)
  have ouL_w6 : w3.heap.size < w6.heap.size := Nat.lt_of_lt_of_le ouL_w5 hb_w6.size
  have oP_w6 := hidP (OwnG.later oP_w5.out hb_w6)
  have oQ_w6 := hidP (OwnG.later oQ_w5.out hb_w6)
  have acc_w6 := hidP (acc_w5.out.trans (hb_w6.mono acc_w5.out.size))
  have sz_w6 : Hid (w5.heap.size ≤ w6.heap.size) := hidP hb_w6.size
  clear hb_w6 bk0_w5 bk1_w5 bkF_w5 bkL_w5 rs0_w5 rs1_w5 rsF_w5 rsL_w5 ou0_w5 ou1_w5 ouF_w5 ouL_w5 oP_w5 oQ_w5 acc_w5
  go_wp2_with fail
  refine (HSa.out _ acc_w6.out).mono ?_
  rintro e w7 ⟨rfl, hb_w7⟩
  have bk0_w7 := (hb_w7.cell bkL_w6).trans bk0_w6
  have bk1_w7 := (hb_w7.cell bkL_w6).trans bk1_w6
  have bkF_w7 : ∀ o, w7.frozen? ⟨w.heap.size, o, none⟩ = false := fun o => (hb_w7.frozen bkL_w6).trans (bkF_w6 o)
  have bkL_w7 : w.heap.size < w7.heap.size := Nat.lt_of_lt_of_le bkL_w6 hb_w7.size
  have rs0_w7 := (hb_w7.cell rsL_w6).trans rs0_w6
  have rs1_w7 := (hb_w7.cell rsL_w6).trans rs1_w6
  have rsF_w7 : ∀ o, w7.frozen? ⟨w.heap.size + 1, o, none⟩ = false := fun o => (hb_w7.frozen rsL_w6).trans (rsF_w6 o)
  have rsL_w7 : w.heap.size + 1 < w7.heap.size := Nat.lt_of_lt_of_le rsL_w6 hb_w7.size
  have ou0_w7 := (hb_w7.cell ouL_w6).trans ou0_w6
  have ou1_w7 := (hb_w7.cell ouL_w6).trans ou1_w6
  have ouF_w7 : ∀ o, w7.frozen? ⟨w3.heap.size, o, none⟩ = false := fun o => (hb_w7.frozen ouL_w6).trans (ouF_w6 o)
  have ouL_w7 : w3.heap.size < w7.heap.size := Nat.lt_of_lt_of_le ouL_w6 hb_w7.size
  have oP_w7 := hidP (OwnG.later oP_w6.out hb_w7)
  have oQ_w7 := hidP (OwnG.later oQ_w6.out hb_w7)
  have acc_w7 := hidP (acc_w6.out.trans (hb_w7.mono acc_w6.out.size))
  have sz_w7 : Hid (w6.heap.size ≤ w7.heap.size) := hidP hb_w7.size
  clear hb_w7 bk0_w6 bk1_w6 bkF_w6 bkL_w6 rs0_w6 rs1_w6 rsF_w6 rsL_w6 ou0_w6 ou1_w6 ouF_w6 ouL_w6 oP_w6 oQ_w6 acc_w6
  go_wp2_with fail
  refine bodyPost_ret (v := .tuple #[.agg #[.slice a3 np c3, .slice b3 nb d3], .bool false]) (by simp [results, Try.results20, go_sem, rs0_w7, rs1_w7]) rfl ⟨_, _, _, _, rfl, ?_, ?_, ne3.out, ?_⟩
  · refine OwnG.mono (B := W2.heap.size) ?_ (by have := as_W1.out; have := sz_W1.out; have := as_W2.out; have := sz_W2.out; have := sz_w3.out; have := as_W4.out; have := sz_W4.out; have := sz_w5.out; have := sz_w6.out; have := sz_w7.out; omega)
    iterate 2 (with_reducible refine OwnG.grown ?_ (grown_cellG _ _ _ _) ?_; rotate_left; (focus (exact OwnG.ne_of oP_w7.out (by have := as_W1.out; have := sz_W1.out; have := as_W2.out; have := sz_W2.out; have := sz_w3.out; have := as_W4.out; have := sz_W4.out; have := sz_w5.out; have := sz_w6.out; have := sz_w7.out; omega))))
    with_reducible exact oP_w7.out
  · refine OwnG.mono (B := W2.heap.size) ?_ (by have := as_W1.out; have := sz_W1.out; have := as_W2.out; have := sz_W2.out; have := sz_w3.out; have := as_W4.out; have := sz_W4.out; have := sz_w5.out; have := sz_w6.out; have := sz_w7.out; omega)
    iterate 2 (with_reducible refine OwnG.grown ?_ (grown_cellG _ _ _ _) ?_; rotate_left; (focus (exact OwnG.ne_of oQ_w7.out (by have := as_W1.out; have := sz_W1.out; have := as_W2.out; have := sz_W2.out; have := sz_w3.out; have := as_W4.out; have := sz_W4.out; have := sz_w5.out; have := sz_w6.out; have := sz_w7.out; omega))))
    with_reducible exact oQ_w7.out
  · repeat (with_reducible refine Below.setCell ?_ ?_ _; rotate_left; (focus (first | (simp; done) | (simp; omega) | (dsimp only; have := as_W1.out; have := sz_W1.out; have := as_W2.out; have := sz_W2.out; have := sz_w3.out; have := as_W4.out; have := sz_W4.out; have := sz_w5.out; have := sz_w6.out; have := sz_w7.out; omega))))
    exact acc_w7.out

set_option maxRecDepth 10000 in
set_option maxHeartbeats 2000000 in
theorem sJ_yes (g h j np nb m : Nat) (ps bs qs : List Int) (w : World) (hnp : np = ps.length) (hnb : nb = bs.length) (hP : RowG KI w (some ⟨g, 0, none⟩) ps) (hK : RowG KI w (some ⟨h, 0, none⟩) bs) (hl : np ≤ 1048576) (hl' : nb ≤ 1048576) (hm : m = qs.length) (hQ : RowG KI w (some ⟨j, 0, none⟩) qs) (hl3 : m ≤ 1048576) (hr : grB ps bs = true) (hj : nb = 0) (hi : idsB 0 qs = true) (h0 : 0 < m) (he : eqZ qs ps = false) :
    Calls Try.prog 20 #[.agg #[.slice (some ⟨g, 0, none⟩) np np, .slice (some ⟨h, 0, none⟩) nb nb], .slice (some ⟨j, 0, none⟩) m m] w fun e w' => ∃ a c b d, e = .returned (.tuple #[.agg #[.slice a np c, .slice b m d], .bool true]) ∧ OwnG KI 3 w' w.heap.size (.slice a np c) ps ∧ OwnG KI 3 w' w.heap.size (.slice b m d) qs ∧ (∀ k, (Value.slice a np c).ownBlock = some k → (Value.slice b m d).ownBlock ≠ some k) ∧ Below w.heap.size w w' := by
  have HOw := hidP (fun W h9 => l12Copy_any (some ⟨g, 0, none⟩) np np (some ⟨h, 0, none⟩) nb nb ps bs W hnp hnb (hP.later h9) (hK.later h9) (fun h => by cases h) (fun h => by cases h) hl hl')
  have HIm := hidP (fun W h9 => sGroupOk_any (some ⟨g, 0, none⟩) np np (some ⟨h, 0, none⟩) nb nb ps bs W hnp hnb (hP.later h9) (hK.later h9) hl hl')
  rw [hr] at HIm
  have dj : decide ((0 : Int) < (nb : Int)) = false := decide_eq_false (by omega)
  have dj2 : decide (0 < nb) = false := decide_eq_false (by omega)
  have HZj := hidP hj
  clear hj
  have HId := hidP (fun W h9 => l12Ids_any (some ⟨j, 0, none⟩) m m qs W hm (hQ.later h9) hl3)
  rw [hi] at HId
  clear hi
  have ej : ((m : Int) == 0) = false := by simp; omega
  have HSa := hidP (fun W h9 => l12Same_any (some ⟨j, 0, none⟩) (some ⟨g, 0, none⟩) m m np np qs ps W hm hnp (hQ.later h9) (hP.later h9) hl3 hl)
  rw [he] at HSa
  clear he
  have HSr := hidP (fun W h9 => src_rowG (P := Try.prog) (w := W) (K := KI) Try.tyI.1 m m (by show 0 < 1; omega) hm (hQ.later h9) (fun h => by cases h))
  have HNm := hidP hm
  clear hP hK hQ hnp hnb hm hr
  go_enter Try.func20, Try.ntmps20
  go_wp2_with fail
  obtain ⟨bk0_W1, bk1_W1⟩ := box2D w 26 (.slice (some ⟨g, 0, none⟩) np np) (.slice (some ⟨h, 0, none⟩) nb nb)
  have bkF_W1 : ∀ o, (w.alloc (.cells #[.slice (some ⟨g, 0, none⟩) np np, .slice (some ⟨h, 0, none⟩) nb nb] 26)).frozen? ⟨w.heap.size, o, none⟩ = false := fun o => by simp [go_sem]
  have bkL_W1 : w.heap.size < (w.alloc (.cells #[.slice (some ⟨g, 0, none⟩) np np, .slice (some ⟨h, 0, none⟩) nb nb] 26)).heap.size := by simp
  have ab_W1 := alloc_below w (.cells #[.slice (some ⟨g, 0, none⟩) np np, .slice (some ⟨h, 0, none⟩) nb nb] 26)
  have as_W1 : Hid ((w.alloc (.cells #[.slice (some ⟨g, 0, none⟩) np np, .slice (some ⟨h, 0, none⟩) nb nb] 26)).heap.size = w.heap.size + 1) := hidP (by simp)
  generalize w.alloc (.cells #[.slice (some ⟨g, 0, none⟩) np np, .slice (some ⟨h, 0, none⟩) nb nb] 26) = W1 at *
  have acc_W1 := hidP (ab_W1)
  have sz_W1 : Hid (w.heap.size ≤ W1.heap.size) := hidP ab_W1.size
  clear ab_W1 
  obtain ⟨rs0_W2, rs1_W2⟩ := box2D W1 26 (.slice none 0 0) (.slice none 0 0)
  have rsF_W2 : ∀ o, (W1.alloc (.cells #[.slice none 0 0, .slice none 0 0] 26)).frozen? ⟨W1.heap.size, o, none⟩ = false := fun o => by simp [go_sem]
  have rsL_W2 : W1.heap.size < (W1.alloc (.cells #[.slice none 0 0, .slice none 0 0] 26)).heap.size := by simp
  have ab_W2 := alloc_below W1 (.cells #[.slice none 0 0, .slice none 0 0] 26)
  have as_W2 : Hid ((W1.alloc (.cells #[.slice none 0 0, .slice none 0 0] 26)).heap.size = W1.heap.size + 1) := hidP (by simp)
  generalize W1.alloc (.cells #[.slice none 0 0, .slice none 0 0] 26) = W2 at *
  have bk0_W2 := (ab_W2.cell bkL_W1).trans bk0_W1
  have bk1_W2 := (ab_W2.cell bkL_W1).trans bk1_W1
  have bkF_W2 : ∀ o, W2.frozen? ⟨w.heap.size, o, none⟩ = false := fun o => (ab_W2.frozen bkL_W1).trans (bkF_W1 o)
  have bkL_W2 : w.heap.size < W2.heap.size := Nat.lt_of_lt_of_le bkL_W1 ab_W2.size
  have acc_W2 := hidP (acc_W1.out.trans (ab_W2.mono acc_W1.out.size))
  have sz_W2 : Hid (W1.heap.size ≤ W2.heap.size) := hidP ab_W2.size
  clear ab_W2 bk0_W1 bk1_W1 bkF_W1 bkL_W1 acc_W1
  rw [as_W1.out] at rs0_W2 rs1_W2 rsL_W2
  have rsF_W2' : ∀ o, W2.frozen? ⟨w.heap.size + 1, o, none⟩ = false := fun o => by have := rsF_W2 o; rw [as_W1.out] at this; exact this
  clear rsF_W2
  have rsF_W2 := rsF_W2'
  clear rsF_W2'
  refine (HOw.out _ acc_W2.out).mono ?_
  rintro e w3 ⟨a3, c3, b3, d3, rfl, og3, oh3, nq3, hb3⟩
  have OX := hidP (And.intro og3 (And.intro oh3 nq3))
  clear og3 oh3 nq3
  have bk0_w3 := (hb3.cell bkL_W2).trans bk0_W2
  have bk1_w3 := (hb3.cell bkL_W2).trans bk1_W2
  have bkF_w3 : ∀ o, w3.frozen? ⟨w.heap.size, o, none⟩ = false := fun o => (hb3.frozen bkL_W2).trans (bkF_W2 o)
  have bkL_w3 : w.heap.size < w3.heap.size := Nat.lt_of_lt_of_le bkL_W2 hb3.size
  have rs0_w3 := (hb3.cell rsL_W2).trans rs0_W2
  have rs1_w3 := (hb3.cell rsL_W2).trans rs1_W2
  have rsF_w3 : ∀ o, w3.frozen? ⟨w.heap.size + 1, o, none⟩ = false := fun o => (hb3.frozen rsL_W2).trans (rsF_W2 o)
  have rsL_w3 : w.heap.size + 1 < w3.heap.size := Nat.lt_of_lt_of_le rsL_W2 hb3.size
  have acc_w3 := hidP (acc_W2.out.trans (hb3.mono acc_W2.out.size))
  have sz_w3 : Hid (W2.heap.size ≤ w3.heap.size) := hidP hb3.size
  clear hb3 bk0_W2 bk1_W2 bkF_W2 bkL_W2 rs0_W2 rs1_W2 rsF_W2 rsL_W2 acc_W2
  have oP_w3 := hidP (OX.out.1)
  have lhP : Hid (∀ k, (Value.slice a3 np c3).ownBlock = some k → W2.heap.size ≤ k ∧ k < w3.heap.size) := hidP (fun k hk => OwnG.lt oP_w3.out k hk)
  have oQ_w3 := hidP (OX.out.2.1)
  have lhQ : Hid (∀ k, (Value.slice b3 nb d3).ownBlock = some k → W2.heap.size ≤ k ∧ k < w3.heap.size) := hidP (fun k hk => OwnG.lt oQ_w3.out k hk)
  have ne3 := hidP OX.out.2.2
  clear OX
  go_wp2_with fail
  obtain ⟨ou0_W4, ou1_W4⟩ := box2D w3 26 (.slice a3 np c3) (.slice b3 nb d3)
  have ouF_W4 : ∀ o, (w3.alloc (.cells #[.slice a3 np c3, .slice b3 nb d3] 26)).frozen? ⟨w3.heap.size, o, none⟩ = false := fun o => by simp [go_sem]
  have ouL_W4 : w3.heap.size < (w3.alloc (.cells #[.slice a3 np c3, .slice b3 nb d3] 26)).heap.size := by simp
  have ab_W4 := alloc_below w3 (.cells #[.slice a3 np c3, .slice b3 nb d3] 26)
  have as_W4 : Hid ((w3.alloc (.cells #[.slice a3 np c3, .slice b3 nb d3] 26)).heap.size = w3.heap.size + 1) := hidP (by simp)
  generalize w3.alloc (.cells #[.slice a3 np c3, .slice b3 nb d3] 26) = W4 at *
  have bk0_W4 := (ab_W4.cell bkL_w3).trans bk0_w3
  have bk1_W4 := (ab_W4.cell bkL_w3).trans bk1_w3
  have bkF_W4 : ∀ o, W4.frozen? ⟨w.heap.size, o, none⟩ = false := fun o => (ab_W4.frozen bkL_w3).trans (bkF_w3 o)
  have bkL_W4 : w.heap.size < W4.heap.size := Nat.lt_of_lt_of_le bkL_w3 ab_W4.size
  have rs0_W4 := (ab_W4.cell rsL_w3).trans rs0_w3
  have rs1_W4 := (ab_W4.cell rsL_w3).trans rs1_w3
  have rsF_W4 : ∀ o, W4.frozen? ⟨w.heap.size + 1, o, none⟩ = false := fun o => (ab_W4.frozen rsL_w3).trans (rsF_w3 o)
  have rsL_W4 : w.heap.size + 1 < W4.heap.size := Nat.lt_of_lt_of_le rsL_w3 ab_W4.size
  have oP_W4 := hidP (OwnG.later oP_w3.out ab_W4)
  have oQ_W4 := hidP (OwnG.later oQ_w3.out ab_W4)
  have acc_W4 := hidP (acc_w3.out.trans (ab_W4.mono acc_w3.out.size))
  have sz_W4 : Hid (w3.heap.size ≤ W4.heap.size) := hidP ab_W4.size
  clear ab_W4 bk0_w3 bk1_w3 bkF_w3 bkL_w3 rs0_w3 rs1_w3 rsF_w3 rsL_w3 oP_w3 oQ_w3 acc_w3
  refine (HIm.out _ acc_W4.out).mono ?_
  rintro e w5 ⟨rfl, hb_w5⟩
  have bk0_w5 := (hb_w5.cell bkL_W4).trans bk0_W4
  have bk1_w5 := (hb_w5.cell bkL_W4).trans bk1_W4
  have bkF_w5 : ∀ o, w5.frozen? ⟨w.heap.size, o, none⟩ = false := fun o => (hb_w5.frozen bkL_W4).trans (bkF_W4 o)
  have bkL_w5 : w.heap.size < w5.heap.size := Nat.lt_of_lt_of_le bkL_W4 hb_w5.size
  have rs0_w5 := (hb_w5.cell rsL_W4).trans rs0_W4
  have rs1_w5 := (hb_w5.cell rsL_W4).trans rs1_W4
  have rsF_w5 : ∀ o, w5.frozen? ⟨w.heap.size + 1, o, none⟩ = false := fun o => (hb_w5.frozen rsL_W4).trans (rsF_W4 o)
  have rsL_w5 : w.heap.size + 1 < w5.heap.size := Nat.lt_of_lt_of_le rsL_W4 hb_w5.size
  have ou0_w5 := (hb_w5.cell ouL_W4).trans ou0_W4
  have ou1_w5 := (hb_w5.cell ouL_W4).trans ou1_W4
  have ouF_w5 : ∀ o, w5.frozen? ⟨w3.heap.size, o, none⟩ = false := fun o => (hb_w5.frozen ouL_W4).trans (ouF_W4 o)
  have ouL_w5 : w3.heap.size < w5.heap.size := Nat.lt_of_lt_of_le ouL_W4 hb_w5.size
  have oP_w5 := hidP (OwnG.later oP_W4.out hb_w5)
  have oQ_w5 := hidP (OwnG.later oQ_W4.out hb_w5)
  have acc_w5 := hidP (acc_W4.out.trans (hb_w5.mono acc_W4.out.size))
  have sz_w5 : Hid (W4.heap.size ≤ w5.heap.size) := hidP hb_w5.size
  clear hb_w5 bk0_W4 bk1_W4 bkF_W4 bkL_W4 rs0_W4 rs1_W4 rsF_W4 rsL_W4 ou0_W4 ou1_W4 ouF_W4 ouL_W4 oP_W4 oQ_W4 acc_W4
  go_wp2_with fail
  refine (HId.out _ acc_w5.out).mono ?_
  rintro e w6 ⟨rfl, hb_w6⟩
  have bk0_w6 := (hb_w6.cell bkL_w5).trans bk0_w5
  have bk1_w6 := (hb_w6.cell bkL_w5).trans bk1_w5
  have bkF_w6 : ∀ o, w6.frozen? ⟨w.heap.size, o, none⟩ = false := fun o => (hb_w6.frozen bkL_w5).trans (bkF_w5 o)
  have bkL_w6 : w.heap.size < w6.heap.size := Nat.lt_of_lt_of_le bkL_w5 hb_w6.size
  have rs0_w6 := (hb_w6.cell rsL_w5).trans rs0_w5
  have rs1_w6 := (hb_w6.cell rsL_w5).trans rs1_w5
  have rsF_w6 : ∀ o, w6.frozen? ⟨w.heap.size + 1, o, none⟩ = false := fun o => (hb_w6.frozen rsL_w5).trans (rsF_w5 o)
  have rsL_w6 : w.heap.size + 1 < w6.heap.size := Nat.lt_of_lt_of_le rsL_w5 hb_w6.size
  have ou0_w6 := (hb_w6.cell ouL_w5).trans ou0_w5
  have ou1_w6 := (hb_w6.cell ouL_w5).trans ou1_w5
  have ouF_w6 : ∀ o, w6.frozen? ⟨w3.heap.size, o, none⟩ = false := fun o => (hb_w6.frozen ouL_w5).trans (ouF_w5 o)
  have ouL_w6 : w3.heap.size < w6.heap.size := Nat.lt_of_lt_of_le ouL_w5 hb_w6.size
  have oP_w6 := hidP (OwnG.later oP_w5.out hb_w6)
  have oQ_w6 := hidP (OwnG.later oQ_w5.out hb_w6)
  have acc_w6 := hidP (acc_w5.out.trans (hb_w6.mono acc_w5.out.size))
  have sz_w6 : Hid (w5.heap.size ≤ w6.heap.size) := hidP hb_w6.size
  clear hb_w6 bk0_w5 bk1_w5 bkF_w5 bkL_w5 rs0_w5 rs1_w5 rsF_w5 rsL_w5 ou0_w5 ou1_w5 ouF_w5 ouL_w5 oP_w5 oQ_w5 acc_w5
  go_wp2_with fail
  refine (HSa.out _ acc_w6.out).mono ?_
  rintro e w7 ⟨rfl, hb_w7⟩
  have bk0_w7 := (hb_w7.cell bkL_w6).trans bk0_w6
  have bk1_w7 := (hb_w7.cell bkL_w6).trans bk1_w6
  have bkF_w7 : ∀ o, w7.frozen? ⟨w.heap.size, o, none⟩ = false := fun o => (hb_w7.frozen bkL_w6).trans (bkF_w6 o)
  have bkL_w7 : w.heap.size < w7.heap.size := Nat.lt_of_lt_of_le bkL_w6 hb_w7.size
  have rs0_w7 := (hb_w7.cell rsL_w6).trans rs0_w6
  have rs1_w7 := (hb_w7.cell rsL_w6).trans rs1_w6
  have rsF_w7 : ∀ o, w7.frozen? ⟨w.heap.size + 1, o, none⟩ = false := fun o => (hb_w7.frozen rsL_w6).trans (rsF_w6 o)
  have rsL_w7 : w.heap.size + 1 < w7.heap.size := Nat.lt_of_lt_of_le rsL_w6 hb_w7.size
  have ou0_w7 := (hb_w7.cell ouL_w6).trans ou0_w6
  have ou1_w7 := (hb_w7.cell ouL_w6).trans ou1_w6
  have ouF_w7 : ∀ o, w7.frozen? ⟨w3.heap.size, o, none⟩ = false := fun o => (hb_w7.frozen ouL_w6).trans (ouF_w6 o)
  have ouL_w7 : w3.heap.size < w7.heap.size := Nat.lt_of_lt_of_le ouL_w6 hb_w7.size
  have oP_w7 := hidP (OwnG.later oP_w6.out hb_w7)
  have oQ_w7 := hidP (OwnG.later oQ_w6.out hb_w7)
  have acc_w7 := hidP (acc_w6.out.trans (hb_w7.mono acc_w6.out.size))
  have sz_w7 : Hid (w6.heap.size ≤ w7.heap.size) := hidP hb_w7.size
  clear hb_w7 bk0_w6 bk1_w6 bkF_w6 bkL_w6 rs0_w6 rs1_w6 rsF_w6 rsL_w6 ou0_w6 ou1_w6 ouF_w6 ouL_w6 oP_w6 oQ_w6 acc_w6
  clear oQ_w7
  clear ne3 lhQ
  have nA : ¬ (w3.heap.size = w.heap.size + 1) := by have := as_W1.out; have := sz_W1.out; have := as_W2.out; have := sz_W2.out; have := sz_w3.out; have := as_W4.out; have := sz_W4.out; have := sz_w5.out; have := sz_w6.out; have := sz_w7.out; omega
  have nB : ¬ (w.heap.size + 1 = w3.heap.size) := by omega
  have z3 := own_zeroG KI w7 w7.heap.size 3 (Nat.le_refl _)
  have zb3 := alloc_below w7 (.cells #[] 3)
  have HZ := hidP (And.intro z3 zb3)
  clear z3 zb3
  go_wp2_with (at_builtin; refine stp ?_)
  unfold Stp
  have HA := hidP (HSr.out _ (acc_w7.out.trans (HZ.out.2.mono acc_w7.out.size)))
  refine wpList_appG Try.tyI _ rfl (.tmp 35) (.tmp 36) 24 rfl w7.heap.size (some ⟨w7.heap.size, 0, none⟩) 0 0 m [] qs (.slice (some ⟨j, 0, none⟩) m m) rfl rfl HNm.out HZ.out.1 rfl HA.out (by omega) (by simp) ?_
  intro a9 c9 w9 ho9 hg9 ht9
  rw [Nat.zero_add, List.nil_append] at ho9
  have hx := below_appG HZ.out.2 HZ.out.1 (by simp) hg9
  have OX := hidP ho9
  clear ho9 hg9 ht9 HZ HA
  have bk0_w9 := (hx.cell bkL_w7).trans bk0_w7
  have bk1_w9 := (hx.cell bkL_w7).trans bk1_w7
  have bkF_w9 : ∀ o, w9.frozen? ⟨w.heap.size, o, none⟩ = false := fun o => (hx.frozen bkL_w7).trans (bkF_w7 o)
  have bkL_w9 : w.heap.size < w9.heap.size := Nat.lt_of_lt_of_le bkL_w7 hx.size
  have rs0_w9 := (hx.cell rsL_w7).trans rs0_w7
  have rs1_w9 := (hx.cell rsL_w7).trans rs1_w7
  have rsF_w9 : ∀ o, w9.frozen? ⟨w.heap.size + 1, o, none⟩ = false := fun o => (hx.frozen rsL_w7).trans (rsF_w7 o)
  have rsL_w9 : w.heap.size + 1 < w9.heap.size := Nat.lt_of_lt_of_le rsL_w7 hx.size
  have ou0_w9 := (hx.cell ouL_w7).trans ou0_w7
  have ou1_w9 := (hx.cell ouL_w7).trans ou1_w7
  have ouF_w9 : ∀ o, w9.frozen? ⟨w3.heap.size, o, none⟩ = false := fun o => (hx.frozen ouL_w7).trans (ouF_w7 o)
  have ouL_w9 : w3.heap.size < w9.heap.size := Nat.lt_of_lt_of_le ouL_w7 hx.size
  have oP_w9 := hidP (OwnG.later oP_w7.out hx)
  have acc_w9 := hidP (acc_w7.out.trans (hx.mono acc_w7.out.size))
  have sz_w9 : Hid (w7.heap.size ≤ w9.heap.size) := hidP hx.size
  clear hx bk0_w7 bk1_w7 bkF_w7 bkL_w7 rs0_w7 rs1_w7 rsF_w7 rsL_w7 ou0_w7 ou1_w7 ouF_w7 ouL_w7 oP_w7 acc_w7
  have oQ_w9 := hidP (OX.out)
  have lhQ : Hid (∀ k, (Value.slice a9 m c9).ownBlock = some k → w7.heap.size ≤ k ∧ k < w9.heap.size) := hidP (fun k hk => OwnG.lt oQ_w9.out k hk)
  clear OX
  go_wp2_with fail
  refine bodyPost_ret (v := .tuple #[.agg #[.slice a3 np c3, .slice a9 m c9], .bool true]) (by simp [results, Try.results20, go_sem, rs0_w9, rs1_w9]) rfl ⟨_, _, _, _, rfl, ?_, ?_, (fun k h1 h2 => by have h3 := (lhP.out k h1).2; have h4 := (lhQ.out k h2).1; have := as_W1.out; have := sz_W1.out; have := as_W2.out; have := sz_W2.out; have := sz_w3.out; have := as_W4.out; have := sz_W4.out; have := sz_w5.out; have := sz_w6.out; have := sz_w7.out; have := sz_w9.out; omega), ?_⟩
  · refine OwnG.mono (B := W2.heap.size) ?_ (by have := as_W1.out; have := sz_W1.out; have := as_W2.out; have := sz_W2.out; have := sz_w3.out; have := as_W4.out; have := sz_W4.out; have := sz_w5.out; have := sz_w6.out; have := sz_w7.out; have := sz_w9.out; omega)
    have NX : ∀ k, (Value.slice a3 np c3).ownBlock = some k → some w3.heap.size ≠ some k := fun k hk e => by have h5 := lhP.out k hk; have h6 := Option.some.inj e; have := as_W1.out; have := sz_W1.out; have := as_W2.out; have := sz_W2.out; have := sz_w3.out; have := as_W4.out; have := sz_W4.out; have := sz_w5.out; have := sz_w6.out; have := sz_w7.out; have := sz_w9.out; omega
    iterate 3 (with_reducible refine OwnG.grown ?_ (grown_cellG _ _ _ _) ?_; rotate_left; (focus (first | exact NX | exact OwnG.ne_of oP_w9.out (by have := as_W1.out; have := sz_W1.out; have := as_W2.out; have := sz_W2.out; have := sz_w3.out; have := as_W4.out; have := sz_W4.out; have := sz_w5.out; have := sz_w6.out; have := sz_w7.out; have := sz_w9.out; omega))))
    with_reducible exact oP_w9.out
  · refine OwnG.mono (B := w7.heap.size) ?_ (by have := as_W1.out; have := sz_W1.out; have := as_W2.out; have := sz_W2.out; have := sz_w3.out; have := as_W4.out; have := sz_W4.out; have := sz_w5.out; have := sz_w6.out; have := sz_w7.out; have := sz_w9.out; omega)
    have NX : ∀ k, (Value.slice a9 m c9).ownBlock = some k → some w3.heap.size ≠ some k := fun k hk e => by have h5 := lhQ.out k hk; have h6 := Option.some.inj e; have := as_W1.out; have := sz_W1.out; have := as_W2.out; have := sz_W2.out; have := sz_w3.out; have := as_W4.out; have := sz_W4.out; have := sz_w5.out; have := sz_w6.out; have := sz_w7.out; have := sz_w9.out; omega
    iterate 3 (with_reducible refine OwnG.grown ?_ (grown_cellG _ _ _ _) ?_; rotate_left; (focus (first | exact NX | exact OwnG.ne_of oQ_w9.out (by have := as_W1.out; have := sz_W1.out; have := as_W2.out; have := sz_W2.out; have := sz_w3.out; have := as_W4.out; have := sz_W4.out; have := sz_w5.out; have := sz_w6.out; have := sz_w7.out; have := sz_w9.out; omega))))
    with_reducible exact oQ_w9.out
  · repeat (with_reducible refine Below.setCell ?_ ?_ _; rotate_left; (focus (first | (simp; done) | (simp; omega) | (dsimp only; have := as_W1.out; have := sz_W1.out; have := as_W2.out; have := sz_W2.out; have := sz_w3.out; have := as_W4.out; have := sz_W4.out; have := sz_w5.out; have := sz_w6.out; have := sz_w7.out; have := sz_w9.out; omega))))
    exact acc_w9.out

end Go.Proofs.Ytnngbeoeocbofaa
