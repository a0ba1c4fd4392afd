/-
  For every plan, pool and owner the two Carve answer alike, in rows of their own, and leave the plan as it was: the walk of the exact law of Carve.
-/
import Derived.Test.YtdbcdichmmcnbaaGreatZK50
import Derived.Test.YtdbcdichmmcnbaaGreatZK52
import Derived.Test.YtdbcdichmmcnbaaGreatZK41
import Derived.Test.YtdbcdichmmcnbaaGreatZK16
import Derived.ProofKit
import Derived.Lib.SmallJoins
import Derived.Carry
import Derived.Deep.Slices
import Derived.ChangeMaps5
import Derived.Deep.DeepCutAuto
import Derived.Test.YtdbcdichmmcnbaaGreatZK1
namespace Go.Proofs.YtdbcdichmmcnbaaGreat
open Go.ChangeShapes Go.WideShapes Go.ChangeAt Go.RowKit Go.Joins Go.Deep Go.Maps

theorem cell_grownC {w w' : World} {r : Option Nat} {b o : Nat} {u : Value} (hg : w.grownBy w' r) (h : w.cell? ⟨b, o, none⟩ = some u) (hne : ∀ k, r = some k → k ≠ b) : w'.cell? ⟨b, o, none⟩ = some u :=
  (World.cell?_of_block (w := w) (hg.block b (World.block_lt_of_cell? w _ h) (fun e => hne b e.symm rfl))).trans h
theorem frz_grownC {w w' : World} {r : Option Nat} {b o : Nat} (hg : w.grownBy w' r) (hb : b < w.heap.size) (h : w.frozen? ⟨b, o, none⟩ = false) (hne : ∀ k, r = some k → k ≠ b) : w'.frozen? ⟨b, o, none⟩ = false :=
  (World.frozen?_of_block (w := w) (hg.block b hb (fun e => hne b e.symm rfl))).trans h
theorem cvO_len (ps : List Pl) (bs : List Bk) (pt : Pf) (ow : ByteArray) (bits : Int) (zs : List Sp) : (cvO ps bs pt ow bits zs).b.length ≤ bs.length + 1 := by
  unfold cvO
  repeat' split
  all_goals first | (show bs.length ≤ bs.length + 1; omega) | (show (insB _ bs).length ≤ _; rw [ins_len]; omega)

set_option maxRecDepth 10000 in
set_option maxHeartbeats 16000000 in
theorem lawCarve (pt : Pf) (ow : ByteArray) (how : ow.size ≤ 9223372036854775807) (ap : Option Addr) (np cp : Nat) (ab : Option Addr) (nb cb : Nat) (ps : List Pl) (bs : List Bk) (w : World) (hnp : np = ps.length) (hnb : nb = bs.length) (hP : RowG KPl w ap ps) (hK : RowG KBk w ab bs) (h9 : np ≤ 9223372036854775807) (h9' : nb ≤ 9223372036854775807) (hst : ∀ q ∈ bs, q.t.size ≤ 9223372036854775807) :
    Calls Tryz.prog 5 #[.agg #[.slice ap np cp, .slice ab nb cb], .agg #[.bool pt.s, .int .i64 pt.H.toInt, .int .i64 pt.L.toInt, .int .i64 pt.b], .string ow] w fun e w' => e = .returned (.bool true) ∧ Below w.heap.size w w' := by
  by_cases hos : 1048576 < ow.size
  · have dO : decide ((1048576 : Int) < (ow.size : Int)) = true := decide_eq_true (by omega)
    clear hP hK hnp hnb hst
    go_enter Tryz.func5, Tryz.ntmps5
    go_wp2_with fail
    go_ret
    exact ⟨rfl, ((Below.refl _ _).alloc (Nat.le_refl _) _).alloc (by simp) _⟩
  have dO : decide ((1048576 : Int) < (ow.size : Int)) = false := decide_eq_false (by omega)
  have HSz := hidP (fun W h => szPlan_any ap np cp ab nb cb ps bs W hnp hnb (hK.later h) h9 h9' hst)
  by_cases ht : totP ps bs ≤ 1048576
  · rw [szT_yes ht] at HSz
    have hl : np ≤ 1048576 := by unfold totP at ht; omega
    have hl' : nb ≤ 1048576 := by unfold totP at ht; omega
    have HTo := hidP (fun W h => toPlan_any ap np cp ab nb cb ps bs W hnp hnb (hP.later h) (hK.later h) hl hl')
    have HTp := hidP (toPrefix_any pt.s pt.H.toInt pt.L.toInt pt.b)
    obtain ⟨O, bits, zs, hO, _, _, hSpec, hImpl⟩ := carve_both pt ow how np nb ps bs hnp hnb hl hl' hst
    have hL2 : O.b.length ≤ 1048577 := by have := cvO_len ps bs pt ow bits zs; rw [← hO] at this; omega
    obtain ⟨BS, F, C⟩ := O
    simp only at hSpec hImpl hL2
    obtain ⟨NB, hNB⟩ : ∃ NB, NB = BS.length := ⟨_, rfl⟩
    rw [← hNB] at hL2
    obtain ⟨NP, hNP'⟩ : ∃ NP, NP = np := ⟨_, rfl⟩
    obtain ⟨PS, hPS'⟩ : ∃ PS, PS = ps := ⟨_, rfl⟩
    have hNP : NP = PS.length := by rw [hNP', hPS']; exact hnp
    have hL1 : NP ≤ 1048577 := by omega
    have HSp : Hid (∀ (g h : Nat) (W : World), RowG KPl W (some ⟨g, 0, none⟩) ps → RowG KBk W (some ⟨h, 0, none⟩) bs → Calls Tryz.prog 9 #[.agg #[.slice (some ⟨g, 0, none⟩) np np, .slice (some ⟨h, 0, none⟩) nb nb], .agg #[.bool pt.s, .int .i64 pt.H.toInt, .int .i64 pt.L.toInt, .int .i64 pt.b], .string ow] W fun e w' => ∃ a c b n d, e = .returned (.tuple #[.agg #[.slice a NP c, .slice b n d], .agg #[.bool (CvO.mk BS F C).f.s, .int .i64 (CvO.mk BS F C).f.H.toInt, .int .i64 (CvO.mk BS F C).f.L.toInt, .int .i64 (CvO.mk BS F C).f.b], .int .i64 (CvO.mk BS F C).c]) ∧ n = (CvO.mk BS F C).b.length ∧ OwnG KPl 46 w' W.heap.size (.slice a NP c) PS ∧ OwnG KBk 38 w' W.heap.size (.slice b n d) (CvO.mk BS F C).b ∧ (∀ k, (Value.slice a NP c).ownBlock = some k → (Value.slice b n d).ownBlock ≠ some k) ∧ Below W.heap.size W w') := hidP (fun g h W e1 e2 => by rw [hNP', hPS']; exact hSpec _ _ _ _ W e1 e2 (fun e => by cases e) (fun e => by cases e))
    have HIm : Hid (∀ (g h : Nat) (W : World), RowG KPl W (some ⟨g, 0, none⟩) ps → RowG KBk W (some ⟨h, 0, none⟩) bs → Calls Tryz.prog 8 #[.agg #[.slice (some ⟨g, 0, none⟩) np np, .slice (some ⟨h, 0, none⟩) nb nb], .agg #[.bool pt.s, .int .i64 pt.H.toInt, .int .i64 pt.L.toInt, .int .i64 pt.b], .string ow] W fun e w' => ∃ a c b n d, e = .returned (.tuple #[.agg #[.slice a NP c, .slice b n d], .agg #[.bool (CvO.mk BS F C).f.s, .int .i64 (CvO.mk BS F C).f.H.toInt, .int .i64 (CvO.mk BS F C).f.L.toInt, .int .i64 (CvO.mk BS F C).f.b], .int .i64 (CvO.mk BS F C).c]) ∧ n = (CvO.mk BS F C).b.length ∧ OwnG KPl 46 w' W.heap.size (.slice a NP c) PS ∧ OwnG KBk 38 w' W.heap.size (.slice b n d) (CvO.mk BS F C).b ∧ (∀ k, (Value.slice a NP c).ownBlock = some k → (Value.slice b n d).ownBlock ≠ some k) ∧ Below W.heap.size W w') := hidP (fun g h W e1 e2 => by rw [hNP', hPS']; exact hImpl _ _ _ _ W e1 e2)
    simp only at HSp HIm
    have HEq := hidP (fun W g h g' h' e1 e2 e3 e4 => eqPlan_same (some ⟨g, 0, none⟩) (some ⟨g', 0, none⟩) np np np (some ⟨h, 0, none⟩) (some ⟨h', 0, none⟩) nb nb nb ps bs W hnp hnb e1 e2 e3 e4 (by omega) (by omega))
    have HEr := hidP (fun W a c b d a' c' b' d' e1 e2 e3 e4 => eqPlan_same a a' NP c c' b b' NB d d' PS BS W hNP hNB e1 e2 e3 e4 (by omega) (by omega))
    have HEp := hidP (eqP_same F.s F.H.toInt F.L.toInt F.b)
    have HMk := hidP (fun W g h B o1 o2 ne => markPlan_any (some ⟨g, 0, none⟩) np np (some ⟨h, 0, none⟩) nb nb ps bs B 1 W hnp hnb o1 o2 ne (by omega) (by omega) (by omega) (by omega))
    have HMr := hidP (fun W a c b d B o1 o2 ne => markPlan_any a NP c b NB d PS BS B 1 W hNP hNB o1 o2 ne (by omega) (by omega) (by omega) (by omega))
    have HHd := hidP (fun W a c b d e1 e2 => heldPlan_any a NP c b NB d 1 W e1 e2 (by omega) (by omega) (by omega) (by omega))
    have HNB := hidP hNB
    have d1 : decide (1048576 - totP ps bs < 0) = false := decide_eq_false (by omega)
    have d2 : ¬ (1048576 - totP ps bs < 0) := by omega
    generalize 1048576 - totP ps bs = z at *
    have d3 : decide ((1 : Int) + 5 * (np : Int) + 5 * (nb : Int) < 0) = false := decide_eq_false (by omega)
    have d4 : ¬ ((1 : Int) + 5 * (np : Int) + 5 * (nb : Int) < 0) := by omega
    have d5 : decide ((1 : Int) + 5 * (NP : Int) + 5 * (NB : Int) < 0) = false := decide_eq_false (by omega)
    have d6 : ¬ ((1 : Int) + 5 * (NP : Int) + 5 * (NB : Int) < 0) := by omega
    clear hP hK hnp hnb hst ht hNP hNB hSpec hImpl hO hNP' hPS'
    go_enter Tryz.func5, Tryz.ntmps5
    go_wp2_with fail
    obtain ⟨lp0_W1, lp1_W1⟩ := box2C w 56 (.slice ap np cp) (.slice ab nb cb)
    have lpF_W1 : ∀ o, (w.alloc (.cells #[.slice ap np cp, .slice ab nb cb] 56)).frozen? ⟨w.heap.size, o, none⟩ = false := fun o => by simp [go_sem]
    have lpL_W1 : w.heap.size < (w.alloc (.cells #[.slice ap np cp, .slice ab nb cb] 56)).heap.size := by simp
    have ab_W1 := alloc_below w (.cells #[.slice ap np cp, .slice ab nb cb] 56)
    have as_W1 : Hid ((w.alloc (.cells #[.slice ap np cp, .slice ab nb cb] 56)).heap.size = w.heap.size + 1) := hidP (by simp)
    generalize w.alloc (.cells #[.slice ap np cp, .slice ab nb cb] 56) = W1 at *
    have acc_W1 := hidP (ab_W1)
    have sz_W1 : Hid (w.heap.size ≤ W1.heap.size) := hidP ab_W1.size
    clear ab_W1 
    obtain ⟨lq0_W2, lq1_W2, lq2_W2, lq3_W2⟩ := box4C W1 59 (.bool pt.s) (.int .i64 pt.H.toInt) (.int .i64 pt.L.toInt) (.int .i64 pt.b)
    have lqF_W2 : ∀ o, (W1.alloc (.cells #[.bool pt.s, .int .i64 pt.H.toInt, .int .i64 pt.L.toInt, .int .i64 pt.b] 59)).frozen? ⟨W1.heap.size, o, none⟩ = false := fun o => by simp [go_sem]
    have lqL_W2 : W1.heap.size < (W1.alloc (.cells #[.bool pt.s, .int .i64 pt.H.toInt, .int .i64 pt.L.toInt, .int .i64 pt.b] 59)).heap.size := by simp
    have ab_W2 := alloc_below W1 (.cells #[.bool pt.s, .int .i64 pt.H.toInt, .int .i64 pt.L.toInt, .int .i64 pt.b] 59)
    have as_W2 : Hid ((W1.alloc (.cells #[.bool pt.s, .int .i64 pt.H.toInt, .int .i64 pt.L.toInt, .int .i64 pt.b] 59)).heap.size = W1.heap.size + 1) := hidP (by simp)
    generalize W1.alloc (.cells #[.bool pt.s, .int .i64 pt.H.toInt, .int .i64 pt.L.toInt, .int .i64 pt.b] 59) = W2 at *
    have lp0_W2 := (ab_W2.cell lpL_W1).trans lp0_W1
    have lp1_W2 := (ab_W2.cell lpL_W1).trans lp1_W1
    have lpF_W2 : ∀ o, W2.frozen? ⟨w.heap.size, o, none⟩ = false := fun o => (ab_W2.frozen lpL_W1).trans (lpF_W1 o)
    have lpL_W2 : w.heap.size < W2.heap.size := Nat.lt_of_lt_of_le lpL_W1 ab_W2.size
    have acc_W2 := hidP (acc_W1.out.trans (ab_W2.mono acc_W1.out.size))
    have sz_W2 : Hid (W1.heap.size ≤ W2.heap.size) := hidP ab_W2.size
    clear ab_W2 lp0_W1 lp1_W1 lpF_W1 lpL_W1 acc_W1
    rw [as_W1.out] at lq0_W2 lq1_W2 lq2_W2 lq3_W2 lqL_W2
    have lqF_W2' : ∀ o, W2.frozen? ⟨w.heap.size + 1, o, none⟩ = false := fun o => by have := lqF_W2 o; rw [as_W1.out] at this; exact this
    clear lqF_W2
    have lqF_W2 := lqF_W2'
    clear lqF_W2'
    refine (HSz.out _ acc_W2.out).mono ?_
    rintro e w2 ⟨rfl, hb2⟩
    have lp0_w2 := (hb2.cell lpL_W2).trans lp0_W2
    have lp1_w2 := (hb2.cell lpL_W2).trans lp1_W2
    have lpF_w2 : ∀ o, w2.frozen? ⟨w.heap.size, o, none⟩ = false := fun o => (hb2.frozen lpL_W2).trans (lpF_W2 o)
    have lpL_w2 : w.heap.size < w2.heap.size := Nat.lt_of_lt_of_le lpL_W2 hb2.size
    have lq0_w2 := (hb2.cell lqL_W2).trans lq0_W2
    have lq1_w2 := (hb2.cell lqL_W2).trans lq1_W2
    have lq2_w2 := (hb2.cell lqL_W2).trans lq2_W2
    have lq3_w2 := (hb2.cell lqL_W2).trans lq3_W2
    have lqF_w2 : ∀ o, w2.frozen? ⟨w.heap.size + 1, o, none⟩ = false := fun o => (hb2.frozen lqL_W2).trans (lqF_W2 o)
    have lqL_w2 : w.heap.size + 1 < w2.heap.size := Nat.lt_of_lt_of_le lqL_W2 hb2.size
    have acc_w2 := hidP (acc_W2.out.trans (hb2.mono acc_W2.out.size))
    have sz_w2 : Hid (W2.heap.size ≤ w2.heap.size) := hidP hb2.size
    clear hb2 lp0_W2 lp1_W2 lpF_W2 lpL_W2 lq0_W2 lq1_W2 lq2_W2 lq3_W2 lqF_W2 lqL_W2 acc_W2
    go_upto_region 7 with fail
    go_cut [8, 9, 10] (fun t8 t9 t10 X => ∃ (p q : Nat) (a : Option Addr) (c : Nat) (b : Option Addr) (d : Nat), t8 = .pointer (some ⟨p, 0, none⟩) ∧ t9 = .pointer (some ⟨q, 0, none⟩) ∧ t10 = .int .i64 C ∧ w2.heap.size ≤ p ∧ p < X.heap.size ∧ w2.heap.size ≤ q ∧ q < X.heap.size ∧ p ≠ q ∧ (X.cell? ⟨p, 0, none⟩ = some (.slice a NP c) ∧ X.cell? ⟨p, 1, none⟩ = some (.slice b NB d)) ∧ (X.cell? ⟨q, 0, none⟩ = some (.bool F.s) ∧ X.cell? ⟨q, 1, none⟩ = some (.int .i64 F.H.toInt) ∧ X.cell? ⟨q, 2, none⟩ = some (.int .i64 F.L.toInt) ∧ X.cell? ⟨q, 3, none⟩ = some (.int .i64 F.b)) ∧ ((∀ o, X.frozen? ⟨p, o, none⟩ = false) ∧ (∀ o, X.frozen? ⟨q, o, none⟩ = false)) ∧ OwnG KPl 46 X w2.heap.size (.slice a NP c) PS ∧ OwnG KBk 38 X w2.heap.size (.slice b NB d) BS ∧ (∀ k, (Value.slice a NP c).ownBlock = some k → (Value.slice b NB d).ownBlock ≠ some k) ∧ ((∀ k, (Value.slice a NP c).ownBlock = some k → k ≠ p) ∧ (∀ k, (Value.slice b NB d).ownBlock = some k → k ≠ p)) ∧ ((∀ k, (Value.slice a NP c).ownBlock = some k → k ≠ q) ∧ (∀ k, (Value.slice b NB d).ownBlock = some k → k ≠ q)) ∧ Below w2.heap.size w2 X)
    case first =>
      have HSx : Hid (∀ x, Below w2.heap.size w2 x → (x.cell? ⟨w.heap.size, 0, none⟩ = some (.slice ap np cp) ∧ x.cell? ⟨w.heap.size, 1, none⟩ = some (.slice ab nb cb) ∧ x.cell? ⟨w.heap.size + 1, 0, none⟩ = some (.bool pt.s) ∧ x.cell? ⟨w.heap.size + 1, 1, none⟩ = some (.int .i64 pt.H.toInt) ∧ x.cell? ⟨w.heap.size + 1, 2, none⟩ = some (.int .i64 pt.L.toInt) ∧ x.cell? ⟨w.heap.size + 1, 3, none⟩ = some (.int .i64 pt.b) ∧ Below w2.heap.size w2 x)) := hidP fun x h =>
        ⟨(h.cell lpL_w2).trans lp0_w2, (h.cell lpL_w2).trans lp1_w2, (h.cell lqL_w2).trans lq0_w2, (h.cell lqL_w2).trans lq1_w2, (h.cell lqL_w2).trans lq2_w2, (h.cell lqL_w2).trans lq3_w2, h⟩
      refine wp_region_held_drew (S := (fun x => x.cell? ⟨w.heap.size, 0, none⟩ = some (.slice ap np cp) ∧ x.cell? ⟨w.heap.size, 1, none⟩ = some (.slice ab nb cb) ∧ x.cell? ⟨w.heap.size + 1, 0, none⟩ = some (.bool pt.s) ∧ x.cell? ⟨w.heap.size + 1, 1, none⟩ = some (.int .i64 pt.H.toInt) ∧ x.cell? ⟨w.heap.size + 1, 2, none⟩ = some (.int .i64 pt.L.toInt) ∧ x.cell? ⟨w.heap.size + 1, 3, none⟩ = some (.int .i64 pt.b) ∧ Below w2.heap.size w2 x)) (by kernel_rfl) ?_ (fun hHeld => ?_)
      · try dsimp only
        exact HSx.out _ (Below.refl _ _).drew
      refine tk 0 30 rfl ?_
      simp only [pa]
      refine tk 2 32 rfl ?_
      simp only [pa]
      refine tk 4 34 rfl ?_
      simp only [pa]
      clear lp0_w2 lp1_w2 lq0_w2 lq1_w2 lq2_w2 lq3_w2
      refine run_inv (fun A listed a x => ∃ (b1 b3 b5 b6 b7 b8 b9 b10 b11 b12 b13 b14 : Bool) (v1 v3 v5 v6 v7 v8 v9 v10 v11 v14 : Value), listed = #[true, b1, true, b3, true, b5, b6, b7, b8, b9, b10, b11, b12, b13, b14] ∧ a = ((((((((((A.put (some 31) v1).put (some 33) v3).put (some 35) v5).put (some 29) v6).put (some 36) v7).put (some 37) v8).put (some 38) v9).put (some 8) v10).put (some 9) v11).put (some 10) v14) ∧ CvR np nb ps bs NP PS BS pt F C w2.heap.size b1 b3 b5 b6 b7 b8 b9 b10 b11 b12 b13 b14 v1 v3 v5 v6 v7 v8 v9 v10 v11 v14 x) (by decide) hHeld ?_ ?_ ?_
      · refine ⟨false, false, false, false, false, false, false, false, false, false, false, false, undef, undef, undef, undef, undef, undef, undef, undef, undef, undef, rfl, by simp only [pa], ?_⟩
        exact { f1 := (fun e => by cases e), f3 := (fun e => by cases e), f5 := (fun e => by cases e), f6 := (fun e => by cases e), f8 := (fun e => by cases e), f9 := (fun e => by cases e), f14 := (fun e => by cases e), f10 := (fun e => by cases e), f11 := (fun e => by cases e), g := (fun e => by cases e), k1 := (fun e => by cases e), k2 := (fun e => by cases e), dd := (fun _ => ⟨rfl, rfl, rfl, rfl, rfl, rfl, rfl⟩) }
      · rintro listed a x i ⟨b1, b3, b5, b6, b7, b8, b9, b10, b11, b12, b13, b14, v1, v3, v5, v6, v7, v8, v9, v10, v11, v14, rfl, rfl, hF⟩ hHeld hi
        have HF := hidP hF
        have hun := ready_un hi
        have hlt := ready_lt hi
        have hSB := hidP (hHeld.2.2.2.2.2.2)
        clear hF
        match i, hlt with
        | 0, _ => exact absurd hun (by simp)
        | 1, _ =>
          have e1 : b1 = false := hun
          subst e1
          refine wpOp_step rfl (fun K hK0 => ?_)
          have hK := (show Shut _ from hK0)
          clear hK0
          simp only [pa]
          go_simp
          go_wp2_with (first | (go_at_call 21; refine (HTo.out _ (acc_w2.out.trans (hSB.out.mono acc_w2.out.size))).mono ?_; rintro e x2 ⟨g2, h2, rfl, og2, oh2, gh2, hb2⟩))
          refine hK.out _ _ ⟨?_, ?_⟩
          · exact HSx.out _ (hSB.out.trans ((hb2).mono hSB.out.size))
          · refine ⟨true, b3, b5, b6, b7, b8, b9, b10, b11, b12, b13, b14, _, v3, v5, v6, v7, v8, v9, v10, v11, v14, rfl, by simp only [pa]; rfl, ?_⟩
            exact { f1 := fun _ _ => ⟨_, _, rfl, og2.row, oh2.row⟩, f3 := (CvR.later HF.out (hb2)).f3, f5 := (CvR.later HF.out (hb2)).f5, f6 := (CvR.later HF.out (hb2)).f6, f8 := (CvR.later HF.out (hb2)).f8, f9 := (CvR.later HF.out (hb2)).f9, f14 := (CvR.later HF.out (hb2)).f14, f10 := (CvR.later HF.out (hb2)).f10, f11 := (CvR.later HF.out (hb2)).f11, g := (CvR.later HF.out (hb2)).g, dd := (CvR.later HF.out (hb2)).dd, k1 := (CvR.later HF.out (hb2)).k1, k2 := (CvR.later HF.out (hb2)).k2 }
        | 2, _ => exact absurd hun (by simp)
        | 3, _ =>
          have e3 : b3 = false := hun
          subst e3
          have e1 : b1 = true := ready_dep 1 hi (by kernel_rfl)
          subst e1
          refine wpOp_step rfl (fun K hK0 => ?_)
          have hK := (show Shut _ from hK0)
          clear hK0
          simp only [pa]
          go_simp
          go_wp2_with (first | (go_at_call 22; refine (HTp.out _).mono ?_; rintro e x2 ⟨rfl, hb2⟩))
          refine hK.out _ _ ⟨?_, ?_⟩
          · exact HSx.out _ (hSB.out.trans ((hb2).mono hSB.out.size))
          · refine ⟨true, true, b5, b6, b7, b8, b9, b10, b11, b12, b13, b14, v1, _, v5, v6, v7, v8, v9, v10, v11, v14, rfl, by simp only [pa]; rfl, ?_⟩
            exact { f1 := (CvR.later HF.out (hb2)).f1, f3 := fun _ => rfl, f5 := (CvR.later HF.out (hb2)).f5, f6 := (CvR.later HF.out (hb2)).f6, f8 := (CvR.later HF.out (hb2)).f8, f9 := (CvR.later HF.out (hb2)).f9, f14 := (CvR.later HF.out (hb2)).f14, f10 := (CvR.later HF.out (hb2)).f10, f11 := (CvR.later HF.out (hb2)).f11, g := (CvR.later HF.out (hb2)).g, dd := (CvR.later HF.out (hb2)).dd, k1 := (CvR.later HF.out (hb2)).k1, k2 := (CvR.later HF.out (hb2)).k2 }
        | 4, _ => exact absurd hun (by simp)
        | 5, _ =>
          have e5 : b5 = false := hun
          subst e5
          have e1 : b1 = true := ready_dep 1 hi (by kernel_rfl)
          subst e1
          have e3 : b3 = true := ready_dep 3 hi (by kernel_rfl)
          subst e3
          obtain ⟨d6, d7, d8, d9, d12, d13, d14⟩ := HF.out.dd rfl
          subst d6
          subst d7
          subst d8
          subst d9
          subst d12
          subst d13
          subst d14
          obtain ⟨gA, hA, eA, rA1, rA2⟩ := HF.out.f1 rfl rfl
          have eB := HF.out.f3 rfl
          subst eA
          subst eB
          refine wpOp_step rfl (fun K hK0 => ?_)
          have hK := (show Shut _ from hK0)
          clear hK0
          simp only [pa]
          go_simp
          go_wp2_with (first | (go_at_call 9; refine (HSp.out gA hA _ rA1 rA2).mono ?_; rintro e x2 ⟨a2, c2, b2, _, d2, rfl, rfl, op2, ob2, ne2, hb2⟩))
          refine hK.out _ _ ⟨?_, ?_⟩
          · exact HSx.out _ (hSB.out.trans ((hb2).mono hSB.out.size))
          · refine ⟨true, true, true, false, false, false, false, b10, b11, false, false, false, _, _, _, v6, v7, v8, v9, v10, v11, v14, rfl, by simp only [pa]; rfl, ?_⟩
            exact { f1 := (fun _ e => by cases e), f3 := (CvR.later HF.out (hb2)).f3, f5 := fun _ => ⟨_, _, _, _, _, rfl, ⟨rfl, OwnG.mono op2 hSB.out.size, OwnG.mono ob2 hSB.out.size, ne2⟩, (fun e p ep => by obtain ⟨p', ep', _, lp, _⟩ := HF.out.f10 e; have h9 := ptr_inj (ep.symm.trans ep'); exact ⟨(fun k hk => by have := (OwnG.lt op2 k hk).1; omega), (fun k hk => by have := (OwnG.lt ob2 k hk).1; omega)⟩), (fun e p ep => by obtain ⟨p', ep', _, lp, _⟩ := HF.out.f11 e; have h9 := ptr_inj (ep.symm.trans ep'); exact ⟨(fun k hk => by have := (OwnG.lt op2 k hk).1; omega), (fun k hk => by have := (OwnG.lt ob2 k hk).1; omega)⟩), (fun e => by cases e), (fun e => by cases e)⟩, f6 := (fun e => by cases e), f8 := (fun e => by cases e), f9 := (fun e => by cases e), f14 := (fun e => by cases e), f10 := (CvR.later HF.out (hb2)).f10, f11 := (CvR.later HF.out (hb2)).f11, g := (CvR.later HF.out (hb2)).g, dd := (fun e => by cases e), k1 := (fun e => by cases e), k2 := (fun e => by cases e) }
        | 6, _ =>
          have e6 : b6 = false := hun
          subst e6
          have e5 : b5 = true := ready_dep 5 hi (by kernel_rfl)
          subst e5
          refine wpOp_step rfl (fun K hK0 => ?_)
          have hK := (show Shut _ from hK0)
          clear hK0
          simp only [pa]
          go_simp
          refine hK.out _ _ ⟨?_, ?_⟩
          · exact HSx.out _ (hSB.out.trans ((Below.refl _ _).mono hSB.out.size))
          · refine ⟨b1, b3, true, true, b7, b8, b9, b10, b11, b12, b13, b14, v1, v3, v5, _, v7, v8, v9, v10, v11, v14, rfl, by simp only [pa]; rfl, ?_⟩
            exact { f1 := (CvR.later HF.out (Below.refl _ _)).f1, f3 := (CvR.later HF.out (Below.refl _ _)).f3, f5 := (CvR.later HF.out (Below.refl _ _)).f5, f6 := fun _ => rfl, f8 := (CvR.later HF.out (Below.refl _ _)).f8, f9 := (CvR.later HF.out (Below.refl _ _)).f9, f14 := (CvR.later HF.out (Below.refl _ _)).f14, f10 := (CvR.later HF.out (Below.refl _ _)).f10, f11 := (CvR.later HF.out (Below.refl _ _)).f11, g := (CvR.later HF.out (Below.refl _ _)).g, dd := (fun e => by cases e), k1 := (CvR.later HF.out (Below.refl _ _)).k1, k2 := (CvR.later HF.out (Below.refl _ _)).k2 }
        | 7, _ =>
          have e7 : b7 = false := hun
          subst e7
          have e6 : b6 = true := ready_dep 6 hi (by kernel_rfl)
          subst e6
          have e5 : b5 = true := by cases b5; exact absurd (HF.out.dd rfl).1 (by simp); rfl
          subst e5
          obtain ⟨a, c, b, n, d, e5', hR, x1, x2, x3, x4⟩ := HF.out.f5 rfl
          have e6' := HF.out.f6 rfl
          subst e6'
          subst e5'
          have HX := hidP (And.intro hR (And.intro x1 (And.intro x2 (And.intro x3 x4))))
          clear hR x1 x2 x3 x4
          refine wpOp_step rfl (fun K hK0 => ?_)
          have hK := (show Shut _ from hK0)
          clear hK0
          simp only [pa]
          go_simp
          refine hK.out _ _ ⟨?_, ?_⟩
          · exact HSx.out _ (hSB.out.trans ((Below.refl _ _).mono hSB.out.size))
          · refine ⟨b1, b3, true, true, true, b8, b9, b10, b11, b12, b13, b14, v1, v3, _, _, _, v8, v9, v10, v11, v14, rfl, by simp only [pa]; rfl, ?_⟩
            exact { f1 := (CvR.later HF.out (Below.refl _ _)).f1, f3 := (CvR.later HF.out (Below.refl _ _)).f3, f5 := fun _ => ⟨_, _, _, _, _, rfl, HX.out.1, HX.out.2.1, HX.out.2.2.1, fun _ => rfl, HX.out.2.2.2.2⟩, f6 := (CvR.later HF.out (Below.refl _ _)).f6, f8 := (CvR.later HF.out (Below.refl _ _)).f8, f9 := (CvR.later HF.out (Below.refl _ _)).f9, f14 := (CvR.later HF.out (Below.refl _ _)).f14, f10 := (CvR.later HF.out (Below.refl _ _)).f10, f11 := (CvR.later HF.out (Below.refl _ _)).f11, g := (CvR.later HF.out (Below.refl _ _)).g, dd := (fun e => by cases e), k1 := (CvR.later HF.out (Below.refl _ _)).k1, k2 := (CvR.later HF.out (Below.refl _ _)).k2 }
        | 8, _ =>
          have e8 : b8 = false := hun
          subst e8
          have e6 : b6 = true := ready_dep 6 hi (by kernel_rfl)
          subst e6
          have e5 : b5 = true := by cases b5; exact absurd (HF.out.dd rfl).1 (by simp); rfl
          subst e5
          obtain ⟨a, c, b, n, d, e5', hR, x1, x2, x3, x4⟩ := HF.out.f5 rfl
          have e6' := HF.out.f6 rfl
          subst e6'
          subst e5'
          have HX := hidP (And.intro hR (And.intro x1 (And.intro x2 (And.intro x3 x4))))
          clear hR x1 x2 x3 x4
          refine wpOp_step rfl (fun K hK0 => ?_)
          have hK := (show Shut _ from hK0)
          clear hK0
          simp only [pa]
          go_simp
          refine hK.out _ _ ⟨?_, ?_⟩
          · exact HSx.out _ (hSB.out.trans ((Below.refl _ _).mono hSB.out.size))
          · refine ⟨b1, b3, true, true, b7, true, b9, b10, b11, b12, b13, b14, v1, v3, _, _, v7, _, v9, v10, v11, v14, rfl, by simp only [pa]; rfl, ?_⟩
            exact { f1 := (CvR.later HF.out (Below.refl _ _)).f1, f3 := (CvR.later HF.out (Below.refl _ _)).f3, f5 := (CvR.later HF.out (Below.refl _ _)).f5, f6 := (CvR.later HF.out (Below.refl _ _)).f6, f8 := fun _ => rfl, f9 := (CvR.later HF.out (Below.refl _ _)).f9, f14 := (CvR.later HF.out (Below.refl _ _)).f14, f10 := (CvR.later HF.out (Below.refl _ _)).f10, f11 := (CvR.later HF.out (Below.refl _ _)).f11, g := (CvR.later HF.out (Below.refl _ _)).g, dd := (fun e => by cases e), k1 := (CvR.later HF.out (Below.refl _ _)).k1, k2 := (CvR.later HF.out (Below.refl _ _)).k2 }
        | 9, _ =>
          have e9 : b9 = false := hun
          subst e9
          have e6 : b6 = true := ready_dep 6 hi (by kernel_rfl)
          subst e6
          have e5 : b5 = true := by cases b5; exact absurd (HF.out.dd rfl).1 (by simp); rfl
          subst e5
          obtain ⟨a, c, b, n, d, e5', hR, x1, x2, x3, x4⟩ := HF.out.f5 rfl
          have e6' := HF.out.f6 rfl
          subst e6'
          subst e5'
          have HX := hidP (And.intro hR (And.intro x1 (And.intro x2 (And.intro x3 x4))))
          clear hR x1 x2 x3 x4
          refine wpOp_step rfl (fun K hK0 => ?_)
          have hK := (show Shut _ from hK0)
          clear hK0
          simp only [pa]
          go_simp
          refine hK.out _ _ ⟨?_, ?_⟩
          · exact HSx.out _ (hSB.out.trans ((Below.refl _ _).mono hSB.out.size))
          · refine ⟨b1, b3, true, true, b7, b8, true, b10, b11, b12, b13, b14, v1, v3, _, _, v7, v8, _, v10, v11, v14, rfl, by simp only [pa]; rfl, ?_⟩
            exact { f1 := (CvR.later HF.out (Below.refl _ _)).f1, f3 := (CvR.later HF.out (Below.refl _ _)).f3, f5 := (CvR.later HF.out (Below.refl _ _)).f5, f6 := (CvR.later HF.out (Below.refl _ _)).f6, f8 := (CvR.later HF.out (Below.refl _ _)).f8, f9 := fun _ => rfl, f14 := (CvR.later HF.out (Below.refl _ _)).f14, f10 := (CvR.later HF.out (Below.refl _ _)).f10, f11 := (CvR.later HF.out (Below.refl _ _)).f11, g := (CvR.later HF.out (Below.refl _ _)).g, dd := (fun e => by cases e), k1 := (CvR.later HF.out (Below.refl _ _)).k1, k2 := (CvR.later HF.out (Below.refl _ _)).k2 }
        | 10, _ =>
          have e10 : b10 = false := hun
          subst e10
          have hba := alloc_below x (.cells #[.slice none 0 0, .slice none 0 0] 27)
          have d12 : b12 = false := by cases b12; rfl; exact absurd (HF.out.k1 rfl) (by simp)
          subst d12
          refine wpOp_step rfl (fun K hK0 => ?_)
          have hK := (show Shut _ from hK0)
          clear hK0
          simp only [pa]
          go_simp
          refine hK.out _ _ ⟨?_, ?_⟩
          · exact HSx.out _ (hSB.out.trans ((hba).mono hSB.out.size))
          · refine ⟨b1, b3, b5, b6, b7, b8, b9, true, b11, false, b13, b14, v1, v3, v5, v6, v7, v8, v9, _, v11, v14, rfl, by simp only [pa]; rfl, ?_⟩
            exact { f1 := (CvR.later HF.out (hba)).f1, f3 := (CvR.later HF.out (hba)).f3, f5 := (fun e => by
              obtain ⟨a, c, b, n, d, e1, ⟨n1, o1, o2, o3⟩, x1, x2, x3, x4⟩ := HF.out.f5 e
              exact ⟨a, c, b, n, d, e1, ⟨n1, OwnG.later o1 hba, OwnG.later o2 hba, o3⟩, (fun _ p ep => by have h9 := ptr_inj ep; exact ⟨(fun k hk => by have := (OwnG.lt o1 k hk).2; omega), (fun k hk => by have := (OwnG.lt o2 k hk).2; omega)⟩), x2, x3, (fun e => by cases e)⟩), f6 := (CvR.later HF.out (hba)).f6, f8 := (CvR.later HF.out (hba)).f8, f9 := (CvR.later HF.out (hba)).f9, f14 := (CvR.later HF.out (hba)).f14, f10 := fun _ => ⟨_, rfl, hSB.out.size, by simp, (fun o => by simp [go_sem]), fun _ => ⟨by simp [go_sem], by simp [go_sem]⟩⟩, f11 := (CvR.later HF.out (hba)).f11, g := fun _ e p q ep eq => by obtain ⟨q', eq', _, lq, _⟩ := HF.out.f11 e; have h9 := ptr_inj (eq.symm.trans eq'); have h8 := ptr_inj ep; omega, dd := (CvR.later HF.out (hba)).dd, k1 := (fun e => by cases e), k2 := (CvR.later HF.out (hba)).k2 }
        | 11, _ =>
          have e11 : b11 = false := hun
          subst e11
          have hba := alloc_below x (.cells #[.bool false, .int .i64 0, .int .i64 0, .int .i64 0] 31)
          have d13 : b13 = false := by cases b13; rfl; exact absurd (HF.out.k2 rfl).1 (by simp)
          subst d13
          refine wpOp_step rfl (fun K hK0 => ?_)
          have hK := (show Shut _ from hK0)
          clear hK0
          simp only [pa]
          go_simp
          refine hK.out _ _ ⟨?_, ?_⟩
          · exact HSx.out _ (hSB.out.trans ((hba).mono hSB.out.size))
          · refine ⟨b1, b3, b5, b6, b7, b8, b9, b10, true, b12, false, b14, v1, v3, v5, v6, v7, v8, v9, v10, _, v14, rfl, by simp only [pa]; rfl, ?_⟩
            exact { f1 := (CvR.later HF.out (hba)).f1, f3 := (CvR.later HF.out (hba)).f3, f5 := (fun e => by
              obtain ⟨a, c, b, n, d, e1, ⟨n1, o1, o2, o3⟩, x1, x2, x3, x4⟩ := HF.out.f5 e
              exact ⟨a, c, b, n, d, e1, ⟨n1, OwnG.later o1 hba, OwnG.later o2 hba, o3⟩, x1, (fun _ p ep => by have h9 := ptr_inj ep; exact ⟨(fun k hk => by have := (OwnG.lt o1 k hk).2; omega), (fun k hk => by have := (OwnG.lt o2 k hk).2; omega)⟩), x3, (fun e2 p ep => by obtain ⟨p', ep', _, lp, _⟩ := HF.out.f10 (HF.out.k1 e2); have h9 := ptr_inj (ep.symm.trans ep'); subst h9; exact cells2 lp hba (x4 e2 _ ep))⟩), f6 := (CvR.later HF.out (hba)).f6, f8 := (CvR.later HF.out (hba)).f8, f9 := (CvR.later HF.out (hba)).f9, f14 := (CvR.later HF.out (hba)).f14, f10 := (CvR.later HF.out (hba)).f10, f11 := fun _ => ⟨_, rfl, hSB.out.size, by simp, (fun o => by simp [go_sem]), fun _ => ⟨by simp [go_sem], by simp [go_sem], by simp [go_sem], by simp [go_sem]⟩, (fun e => by cases e)⟩, g := fun e _ p q ep eq => by obtain ⟨p', ep', _, lp, _⟩ := HF.out.f10 e; have h9 := ptr_inj (ep.symm.trans ep'); have h8 := ptr_inj eq; omega, dd := (CvR.later HF.out (hba)).dd, k1 := (CvR.later HF.out (hba)).k1, k2 := (fun e => by cases e) }
        | 12, _ =>
          have e12 : b12 = false := hun
          subst e12
          have e1 : b1 = true := ready_dep 1 hi (by kernel_rfl)
          subst e1
          have e3 : b3 = true := ready_dep 3 hi (by kernel_rfl)
          subst e3
          have e5 : b5 = true := ready_dep 5 hi (by kernel_rfl)
          subst e5
          have e6 : b6 = true := ready_dep 6 hi (by kernel_rfl)
          subst e6
          have e7 : b7 = true := ready_dep 7 hi (by kernel_rfl)
          subst e7
          have e10 : b10 = true := ready_dep 10 hi (by kernel_rfl)
          subst e10
          have e11 : b11 = true := ready_dep 11 hi (by kernel_rfl)
          subst e11
          have d13 : b13 = false := by cases b13; rfl; exact absurd (HF.out.k2 rfl).2 (by simp)
          subst d13
          obtain ⟨a, c, b, _, d, e5', ⟨rfl, oP, oB, hne⟩, x1, x2, x3, x4⟩ := HF.out.f5 rfl
          subst e5'
          obtain ⟨p, ep, lp1, lp2, fp, cp0⟩ := HF.out.f10 rfl
          obtain ⟨q, eq, lq1, lq2, fq, cq0, cq1⟩ := HF.out.f11 rfl
          have hpq := HF.out.g rfl rfl p q ep eq
          have n1 := x1 rfl p ep
          have n2 := x2 rfl q eq
          have e7 := x3 rfl
          subst ep
          subst eq
          subst e7
          have z := cp0 rfl
          have z0 := z.1
          have z1 := z.2
          clear z
          refine wpOp_step rfl (fun K hK0 => ?_)
          have hK := (show Shut _ from hK0)
          clear hK0
          simp only [pa]
          go_simp
          refine hK.out _ _ ⟨?_, ?_⟩
          · exact HSx.out _ (((hSB.out).setCell lp1 _).setCell lp1 _)
          · refine ⟨true, true, true, true, true, b8, b9, true, true, true, false, b14, v1, v3, _, v6, _, v8, v9, _, _, v14, rfl, by simp only [pa]; rfl, ?_⟩
            exact { f1 := (fun _ e => by cases e), f3 := HF.out.f3, f5 := fun _ => ⟨a, c, b, _, d, rfl, ⟨rfl, (OwnG.grown (OwnG.grown oP (grown_cellG _ _ _ _) (fun k hk e => n1.1 k hk (by simpa using e.symm))) (grown_cellG _ _ _ _) (fun k hk e => n1.1 k hk (by simpa using e.symm))), (OwnG.grown (OwnG.grown oB (grown_cellG _ _ _ _) (fun k hk e => n1.2 k hk (by simpa using e.symm))) (grown_cellG _ _ _ _) (fun k hk e => n1.2 k hk (by simpa using e.symm))), hne⟩, x1, x2, fun _ => rfl, (fun _ p' ep' => by have h9 := ptr_inj ep'; subst h9; exact ⟨by simp [go_sem, z0], by simp [go_sem, z1]⟩)⟩, f6 := HF.out.f6, f8 := HF.out.f8, f9 := HF.out.f9, f14 := HF.out.f14, f10 := fun _ => ⟨p, rfl, lp1, by simpa using lp2, (fun o => (frzC (frzC (fp o)))), (fun e => by cases e)⟩, f11 := fun _ => ⟨q, rfl, lq1, by simpa using lq2, (fun o => (frzC (frzC (fq o)))), (fun _ => ⟨(cellC (cellC (cq0 rfl).1 hpq.symm) hpq.symm), (cellC (cellC (cq0 rfl).2.1 hpq.symm) hpq.symm), (cellC (cellC (cq0 rfl).2.2.1 hpq.symm) hpq.symm), (cellC (cellC (cq0 rfl).2.2.2 hpq.symm) hpq.symm)⟩), (fun e => by cases e)⟩, g := HF.out.g, dd := (fun e => by cases e), k1 := fun _ => rfl, k2 := (fun e => by cases e) }
        | 13, _ =>
          have e13 : b13 = false := hun
          subst e13
          have e1 : b1 = true := ready_dep 1 hi (by kernel_rfl)
          subst e1
          have e3 : b3 = true := ready_dep 3 hi (by kernel_rfl)
          subst e3
          have e5 : b5 = true := ready_dep 5 hi (by kernel_rfl)
          subst e5
          have e6 : b6 = true := ready_dep 6 hi (by kernel_rfl)
          subst e6
          have e7 : b7 = true := ready_dep 7 hi (by kernel_rfl)
          subst e7
          have e8 : b8 = true := ready_dep 8 hi (by kernel_rfl)
          subst e8
          have e10 : b10 = true := ready_dep 10 hi (by kernel_rfl)
          subst e10
          have e11 : b11 = true := ready_dep 11 hi (by kernel_rfl)
          subst e11
          have e12 : b12 = true := ready_dep 12 hi (by kernel_rfl)
          subst e12
          obtain ⟨a, c, b, _, d, e5', ⟨rfl, oP, oB, hne⟩, x1, x2, x3, x4⟩ := HF.out.f5 rfl
          subst e5'
          obtain ⟨p, ep, lp1, lp2, fp, cp0⟩ := HF.out.f10 rfl
          obtain ⟨q, eq, lq1, lq2, fq, cq0, cq1⟩ := HF.out.f11 rfl
          have hpq := HF.out.g rfl rfl p q ep eq
          have n1 := x1 rfl p ep
          have n2 := x2 rfl q eq
          have e7 := x3 rfl
          subst ep
          subst eq
          subst e7
          have e8 := HF.out.f8 rfl
          subst e8
          have z := cq0 rfl
          have z0 := z.1
          have z1 := z.2.1
          have z2 := z.2.2.1
          have z3 := z.2.2.2
          clear z
          have y := x4 rfl p rfl
          refine wpOp_step rfl (fun K hK0 => ?_)
          have hK := (show Shut _ from hK0)
          clear hK0
          simp only [pa]
          go_simp
          refine hK.out _ _ ⟨?_, ?_⟩
          · exact HSx.out _ (((((hSB.out).setCell lq1 _).setCell lq1 _).setCell lq1 _).setCell lq1 _)
          · refine ⟨true, true, true, true, true, true, b9, true, true, true, true, b14, v1, v3, _, v6, _, _, v9, _, _, v14, rfl, by simp only [pa]; rfl, ?_⟩
            exact { f1 := (fun _ e => by cases e), f3 := HF.out.f3, f5 := fun _ => ⟨a, c, b, _, d, rfl, ⟨rfl, (OwnG.grown (OwnG.grown (OwnG.grown (OwnG.grown oP (grown_cellG _ _ _ _) (fun k hk e => n2.1 k hk (by simpa using e.symm))) (grown_cellG _ _ _ _) (fun k hk e => n2.1 k hk (by simpa using e.symm))) (grown_cellG _ _ _ _) (fun k hk e => n2.1 k hk (by simpa using e.symm))) (grown_cellG _ _ _ _) (fun k hk e => n2.1 k hk (by simpa using e.symm))), (OwnG.grown (OwnG.grown (OwnG.grown (OwnG.grown oB (grown_cellG _ _ _ _) (fun k hk e => n2.2 k hk (by simpa using e.symm))) (grown_cellG _ _ _ _) (fun k hk e => n2.2 k hk (by simpa using e.symm))) (grown_cellG _ _ _ _) (fun k hk e => n2.2 k hk (by simpa using e.symm))) (grown_cellG _ _ _ _) (fun k hk e => n2.2 k hk (by simpa using e.symm))), hne⟩, x1, x2, fun _ => rfl, (fun _ p' ep' => by have h9 := ptr_inj ep'; subst h9; exact ⟨(cellC (cellC (cellC (cellC y.1 hpq) hpq) hpq) hpq), (cellC (cellC (cellC (cellC y.2 hpq) hpq) hpq) hpq)⟩)⟩, f6 := HF.out.f6, f8 := fun _ => rfl, f9 := HF.out.f9, f14 := HF.out.f14, f10 := fun _ => ⟨p, rfl, lp1, by simpa using lp2, (fun o => (frzC (frzC (frzC (frzC (fp o)))))), (fun e => by cases e)⟩, f11 := fun _ => ⟨q, rfl, lq1, by simpa using lq2, (fun o => (frzC (frzC (frzC (frzC (fq o)))))), (fun e => by cases e), (fun _ => ⟨by simp [go_sem, z0], by simp [go_sem, z1], by simp [go_sem, z2], by simp [go_sem, z3]⟩)⟩, g := HF.out.g, dd := (fun e => by cases e), k1 := fun _ => rfl, k2 := fun _ => ⟨rfl, rfl⟩ }
        | 14, _ =>
          have e14 : b14 = false := hun
          subst e14
          have e1 : b1 = true := ready_dep 1 hi (by kernel_rfl)
          subst e1
          have e3 : b3 = true := ready_dep 3 hi (by kernel_rfl)
          subst e3
          have e5 : b5 = true := ready_dep 5 hi (by kernel_rfl)
          subst e5
          have e6 : b6 = true := ready_dep 6 hi (by kernel_rfl)
          subst e6
          have e7 : b7 = true := ready_dep 7 hi (by kernel_rfl)
          subst e7
          have e8 : b8 = true := ready_dep 8 hi (by kernel_rfl)
          subst e8
          have e9 : b9 = true := ready_dep 9 hi (by kernel_rfl)
          subst e9
          have e10 : b10 = true := ready_dep 10 hi (by kernel_rfl)
          subst e10
          have e11 : b11 = true := ready_dep 11 hi (by kernel_rfl)
          subst e11
          have e12 : b12 = true := ready_dep 12 hi (by kernel_rfl)
          subst e12
          have e13 : b13 = true := ready_dep 13 hi (by kernel_rfl)
          subst e13
          have e9' := HF.out.f9 rfl
          subst e9'
          refine wpOp_step rfl (fun K hK0 => ?_)
          have hK := (show Shut _ from hK0)
          clear hK0
          simp only [pa]
          go_simp
          refine hK.out _ _ ⟨?_, ?_⟩
          · exact HSx.out _ (hSB.out.trans ((Below.refl _ _).mono hSB.out.size))
          · refine ⟨true, true, true, true, true, true, true, true, true, true, true, true, v1, v3, v5, v6, v7, v8, _, v10, v11, _, rfl, by simp only [pa]; rfl, ?_⟩
            exact { f1 := (CvR.later HF.out (Below.refl _ _)).f1, f3 := (CvR.later HF.out (Below.refl _ _)).f3, f5 := (CvR.later HF.out (Below.refl _ _)).f5, f6 := (CvR.later HF.out (Below.refl _ _)).f6, f8 := (CvR.later HF.out (Below.refl _ _)).f8, f9 := (CvR.later HF.out (Below.refl _ _)).f9, f14 := fun _ => rfl, f10 := (CvR.later HF.out (Below.refl _ _)).f10, f11 := (CvR.later HF.out (Below.refl _ _)).f11, g := (CvR.later HF.out (Below.refl _ _)).g, dd := (fun e => by cases e), k1 := (CvR.later HF.out (Below.refl _ _)).k1, k2 := (CvR.later HF.out (Below.refl _ _)).k2 }
        | j + 15, h => exact absurd h (by simp)
      · rintro listed a x ⟨b1, b3, b5, b6, b7, b8, b9, b10, b11, b12, b13, b14, v1, v3, v5, v6, v7, v8, v9, v10, v11, v14, rfl, rfl, hF⟩ hHeld hnil
        have hno : ∀ i, i ∈ Region.ready .any _ _ → False := fun i h => by rw [hnil] at h; cases h
        have e1 : b1 = true := by
          cases b1
          · exact (hno 1 (ready_in (by decide) (by kernel_rfl))).elim
          · rfl
        subst e1
        have e3 : b3 = true := by
          cases b3
          · exact (hno 3 (ready_in (by decide) (by kernel_rfl))).elim
          · rfl
        subst e3
        have e5 : b5 = true := by
          cases b5
          · exact (hno 5 (ready_in (by decide) (by kernel_rfl))).elim
          · rfl
        subst e5
        have e6 : b6 = true := by
          cases b6
          · exact (hno 6 (ready_in (by decide) (by kernel_rfl))).elim
          · rfl
        subst e6
        have e7 : b7 = true := by
          cases b7
          · exact (hno 7 (ready_in (by decide) (by kernel_rfl))).elim
          · rfl
        subst e7
        have e8 : b8 = true := by
          cases b8
          · exact (hno 8 (ready_in (by decide) (by kernel_rfl))).elim
          · rfl
        subst e8
        have e9 : b9 = true := by
          cases b9
          · exact (hno 9 (ready_in (by decide) (by kernel_rfl))).elim
          · rfl
        subst e9
        have e10 : b10 = true := by
          cases b10
          · exact (hno 10 (ready_in (by decide) (by kernel_rfl))).elim
          · rfl
        subst e10
        have e11 : b11 = true := by
          cases b11
          · exact (hno 11 (ready_in (by decide) (by kernel_rfl))).elim
          · rfl
        subst e11
        have e12 : b12 = true := by
          cases b12
          · exact (hno 12 (ready_in (by decide) (by kernel_rfl))).elim
          · rfl
        subst e12
        have e13 : b13 = true := by
          cases b13
          · exact (hno 13 (ready_in (by decide) (by kernel_rfl))).elim
          · rfl
        subst e13
        have e14 : b14 = true := by
          cases b14
          · exact (hno 14 (ready_in (by decide) (by kernel_rfl))).elim
          · rfl
        subst e14
        obtain ⟨a, c, b, n, d, e5', ⟨hn, oP, oB, hne⟩, x1, x2, x3, x4⟩ := hF.f5 rfl
        obtain ⟨p, ep, lp1, lp2, fp, _⟩ := hF.f10 rfl
        obtain ⟨q, eq, lq1, lq2, fq, _, cq⟩ := hF.f11 rfl
        have hpq := hF.g rfl rfl p q ep eq
        have m1 := x1 rfl p ep
        have m2 := x2 rfl q eq
        have y := x4 rfl p ep
        have e14' := hF.f14 rfl
        subst ep
        subst eq
        subst e14'
        have HB := hidP (hHeld.2.2.2.2.2.2)
        have hnn := hn.trans HNB.out.symm
        subst hnn
        have HZ := hidP (And.intro oP (And.intro oB (And.intro hne (And.intro m1 (And.intro m2 (And.intro y (cq rfl)))))))
        clear hHeld hF hnil hno x1 x2 x3 x4 m1 m2 y cq oP oB hne hn e5'
        simp only [pa]
        go_wp2_with fail
        go_meet
        exact ⟨p, q, a, c, b, d, rfl, rfl, rfl, lp1, lp2, lq1, lq2, hpq, HZ.out.2.2.2.2.2.1, HZ.out.2.2.2.2.2.2, ⟨fp, fq⟩, HZ.out.1, HZ.out.2.1, HZ.out.2.2.1, HZ.out.2.2.2.1, HZ.out.2.2.2.2.1, HB.out⟩
    case rest =>
      obtain ⟨wc1, hwc⟩ : ∃ X, X = wc := ⟨_, rfl⟩
      subst hwc
      obtain ⟨spB, sfB, a1, c1, b1, d1, rfl, rfl, rfl, hp1, spL_wc1, hq1, sfL_wc1, hpq1, ⟨sp0_wc1, sp1_wc1⟩, ⟨sf0_wc1, sf1_wc1, sf2_wc1, sf3_wc1⟩, ⟨spF_wc1, sfF_wc1⟩, oX, oY, ne1, m1, m2, hX⟩ := hcut
      have HP1 : Hid (w2.heap.size ≤ spB ∧ w2.heap.size ≤ sfB ∧ spB < wc1.heap.size ∧ sfB < wc1.heap.size) := hidP ⟨hp1, hq1, spL_wc1, sfL_wc1⟩
      have HM1 := hidP (And.intro m1 m2)
      have HNE1 := hidP ne1
      have OX := hidP (And.intro oX oY)
      clear oX oY m1 m2 ne1 hp1 hq1
      have lp0_wc1 := (hX.cell lpL_w2).trans lp0_w2
      have lp1_wc1 := (hX.cell lpL_w2).trans lp1_w2
      have lpF_wc1 : ∀ o, wc1.frozen? ⟨w.heap.size, o, none⟩ = false := fun o => (hX.frozen lpL_w2).trans (lpF_w2 o)
      have lpL_wc1 : w.heap.size < wc1.heap.size := Nat.lt_of_lt_of_le lpL_w2 hX.size
      have lq0_wc1 := (hX.cell lqL_w2).trans lq0_w2
      have lq1_wc1 := (hX.cell lqL_w2).trans lq1_w2
      have lq2_wc1 := (hX.cell lqL_w2).trans lq2_w2
      have lq3_wc1 := (hX.cell lqL_w2).trans lq3_w2
      have lqF_wc1 : ∀ o, wc1.frozen? ⟨w.heap.size + 1, o, none⟩ = false := fun o => (hX.frozen lqL_w2).trans (lqF_w2 o)
      have lqL_wc1 : w.heap.size + 1 < wc1.heap.size := Nat.lt_of_lt_of_le lqL_w2 hX.size
      have acc_wc1 := hidP (acc_w2.out.trans (hX.mono acc_w2.out.size))
      have sz_wc1 : Hid (w2.heap.size ≤ wc1.heap.size) := hidP hX.size
      clear hX lp0_w2 lp1_w2 lpF_w2 lpL_w2 lq0_w2 lq1_w2 lq2_w2 lq3_w2 lqF_w2 lqL_w2 acc_w2
      have oS_wc1 := hidP (OX.out.1)
      have lhS : Hid (∀ k, (Value.slice a1 NP c1).ownBlock = some k → w2.heap.size ≤ k ∧ k < wc1.heap.size) := hidP (fun k hk => OwnG.lt oS_wc1.out k hk)
      have oT_wc1 := hidP (OX.out.2)
      have lhT : Hid (∀ k, (Value.slice b1 NB d1).ownBlock = some k → w2.heap.size ≤ k ∧ k < wc1.heap.size) := hidP (fun k hk => OwnG.lt oT_wc1.out k hk)
      clear OX
      go_wp2_with fail
      refine (HTo.out _ acc_wc1.out).mono ?_
      rintro e w5 ⟨g2, h2, rfl, og2, oh2, gh2, hb5⟩
      have OX := hidP (And.intro og2 (And.intro oh2 gh2))
      clear og2 oh2 gh2
      have lp0_w5 := (hb5.cell lpL_wc1).trans lp0_wc1
      have lp1_w5 := (hb5.cell lpL_wc1).trans lp1_wc1
      have lpF_w5 : ∀ o, w5.frozen? ⟨w.heap.size, o, none⟩ = false := fun o => (hb5.frozen lpL_wc1).trans (lpF_wc1 o)
      have lpL_w5 : w.heap.size < w5.heap.size := Nat.lt_of_lt_of_le lpL_wc1 hb5.size
      have lq0_w5 := (hb5.cell lqL_wc1).trans lq0_wc1
      have lq1_w5 := (hb5.cell lqL_wc1).trans lq1_wc1
      have lq2_w5 := (hb5.cell lqL_wc1).trans lq2_wc1
      have lq3_w5 := (hb5.cell lqL_wc1).trans lq3_wc1
      have lqF_w5 : ∀ o, w5.frozen? ⟨w.heap.size + 1, o, none⟩ = false := fun o => (hb5.frozen lqL_wc1).trans (lqF_wc1 o)
      have lqL_w5 : w.heap.size + 1 < w5.heap.size := Nat.lt_of_lt_of_le lqL_wc1 hb5.size
      have sp0_w5 := (hb5.cell spL_wc1).trans sp0_wc1
      have sp1_w5 := (hb5.cell spL_wc1).trans sp1_wc1
      have spF_w5 : ∀ o, w5.frozen? ⟨spB, o, none⟩ = false := fun o => (hb5.frozen spL_wc1).trans (spF_wc1 o)
      have spL_w5 : spB < w5.heap.size := Nat.lt_of_lt_of_le spL_wc1 hb5.size
      have sf0_w5 := (hb5.cell sfL_wc1).trans sf0_wc1
      have sf1_w5 := (hb5.cell sfL_wc1).trans sf1_wc1
      have sf2_w5 := (hb5.cell sfL_wc1).trans sf2_wc1
      have sf3_w5 := (hb5.cell sfL_wc1).trans sf3_wc1
      have sfF_w5 : ∀ o, w5.frozen? ⟨sfB, o, none⟩ = false := fun o => (hb5.frozen sfL_wc1).trans (sfF_wc1 o)
      have sfL_w5 : sfB < w5.heap.size := Nat.lt_of_lt_of_le sfL_wc1 hb5.size
      have oS_w5 := hidP (OwnG.later oS_wc1.out hb5)
      have oT_w5 := hidP (OwnG.later oT_wc1.out hb5)
      have acc_w5 := hidP (acc_wc1.out.trans (hb5.mono acc_wc1.out.size))
      have sz_w5 : Hid (wc1.heap.size ≤ w5.heap.size) := hidP hb5.size
      clear hb5 lp0_wc1 lp1_wc1 lpF_wc1 lpL_wc1 lq0_wc1 lq1_wc1 lq2_wc1 lq3_wc1 lqF_wc1 lqL_wc1 sp0_wc1 sp1_wc1 spF_wc1 spL_wc1 sf0_wc1 sf1_wc1 sf2_wc1 sf3_wc1 sfF_wc1 sfL_wc1 oS_wc1 oT_wc1 acc_wc1
      have HOR1 := hidP (And.intro as_W1.out (And.intro sz_W1.out (And.intro as_W2.out (And.intro sz_W2.out (And.intro sz_w2.out (And.intro sz_wc1.out (And.intro HP1.out sz_w5.out)))))))
      clear sz_W1 sz_W2 sz_w2 sz_wc1 sz_w5
      have oX_w5 := hidP (OX.out.1)
      have lhX : Hid (∀ k, (Value.slice (some ⟨g2, 0, none⟩) np np).ownBlock = some k → wc1.heap.size ≤ k ∧ k < w5.heap.size) := hidP (fun k hk => OwnG.lt oX_w5.out k hk)
      have oY_w5 := hidP (OX.out.2.1)
      have lhY : Hid (∀ k, (Value.slice (some ⟨h2, 0, none⟩) nb nb).ownBlock = some k → wc1.heap.size ≤ k ∧ k < w5.heap.size) := hidP (fun k hk => OwnG.lt oY_w5.out k hk)
      have GH := hidP OX.out.2.2
      clear OX
      go_wp2_with fail
      obtain ⟨xa0_W6, xa1_W6⟩ := box2C w5 27 (.slice (some ⟨g2, 0, none⟩) np np) (.slice (some ⟨h2, 0, none⟩) nb nb)
      have xaF_W6 : ∀ o, (w5.alloc (.cells #[.slice (some ⟨g2, 0, none⟩) np np, .slice (some ⟨h2, 0, none⟩) nb nb] 27)).frozen? ⟨w5.heap.size, o, none⟩ = false := fun o => by simp [go_sem]
      have xaL_W6 : w5.heap.size < (w5.alloc (.cells #[.slice (some ⟨g2, 0, none⟩) np np, .slice (some ⟨h2, 0, none⟩) nb nb] 27)).heap.size := by simp
      have ab_W6 := alloc_below w5 (.cells #[.slice (some ⟨g2, 0, none⟩) np np, .slice (some ⟨h2, 0, none⟩) nb nb] 27)
      have as_W6 : Hid ((w5.alloc (.cells #[.slice (some ⟨g2, 0, none⟩) np np, .slice (some ⟨h2, 0, none⟩) nb nb] 27)).heap.size = w5.heap.size + 1) := hidP (by simp)
      generalize w5.alloc (.cells #[.slice (some ⟨g2, 0, none⟩) np np, .slice (some ⟨h2, 0, none⟩) nb nb] 27) = W6 at *
      have lp0_W6 := (ab_W6.cell lpL_w5).trans lp0_w5
      have lp1_W6 := (ab_W6.cell lpL_w5).trans lp1_w5
      have lpF_W6 : ∀ o, W6.frozen? ⟨w.heap.size, o, none⟩ = false := fun o => (ab_W6.frozen lpL_w5).trans (lpF_w5 o)
      have lpL_W6 : w.heap.size < W6.heap.size := Nat.lt_of_lt_of_le lpL_w5 ab_W6.size
      have lq0_W6 := (ab_W6.cell lqL_w5).trans lq0_w5
      have lq1_W6 := (ab_W6.cell lqL_w5).trans lq1_w5
      have lq2_W6 := (ab_W6.cell lqL_w5).trans lq2_w5
      have lq3_W6 := (ab_W6.cell lqL_w5).trans lq3_w5
      have lqF_W6 : ∀ o, W6.frozen? ⟨w.heap.size + 1, o, none⟩ = false := fun o => (ab_W6.frozen lqL_w5).trans (lqF_w5 o)
      have lqL_W6 : w.heap.size + 1 < W6.heap.size := Nat.lt_of_lt_of_le lqL_w5 ab_W6.size
      have sp0_W6 := (ab_W6.cell spL_w5).trans sp0_w5
      have sp1_W6 := (ab_W6.cell spL_w5).trans sp1_w5
      have spF_W6 : ∀ o, W6.frozen? ⟨spB, o, none⟩ = false := fun o => (ab_W6.frozen spL_w5).trans (spF_w5 o)
      have spL_W6 : spB < W6.heap.size := Nat.lt_of_lt_of_le spL_w5 ab_W6.size
      have sf0_W6 := (ab_W6.cell sfL_w5).trans sf0_w5
      have sf1_W6 := (ab_W6.cell sfL_w5).trans sf1_w5
      have sf2_W6 := (ab_W6.cell sfL_w5).trans sf2_w5
      have sf3_W6 := (ab_W6.cell sfL_w5).trans sf3_w5
      have sfF_W6 : ∀ o, W6.frozen? ⟨sfB, o, none⟩ = false := fun o => (ab_W6.frozen sfL_w5).trans (sfF_w5 o)
      have sfL_W6 : sfB < W6.heap.size := Nat.lt_of_lt_of_le sfL_w5 ab_W6.size
      have oS_W6 := hidP (OwnG.later oS_w5.out ab_W6)
      have oT_W6 := hidP (OwnG.later oT_w5.out ab_W6)
      have oX_W6 := hidP (OwnG.later oX_w5.out ab_W6)
      have oY_W6 := hidP (OwnG.later oY_w5.out ab_W6)
      have acc_W6 := hidP (acc_w5.out.trans (ab_W6.mono acc_w5.out.size))
      have sz_W6 : Hid (w5.heap.size ≤ W6.heap.size) := hidP ab_W6.size
      clear ab_W6 lp0_w5 lp1_w5 lpF_w5 lpL_w5 lq0_w5 lq1_w5 lq2_w5 lq3_w5 lqF_w5 lqL_w5 sp0_w5 sp1_w5 spF_w5 spL_w5 sf0_w5 sf1_w5 sf2_w5 sf3_w5 sfF_w5 sfL_w5 oS_w5 oT_w5 oX_w5 oY_w5 acc_w5
      go_upto_region 9 with fail
      go_cut [12, 13, 14] (fun t12 t13 t14 X => ∃ (p q : Nat) (a : Option Addr) (c : Nat) (b : Option Addr) (d : Nat), t12 = .pointer (some ⟨p, 0, none⟩) ∧ t13 = .pointer (some ⟨q, 0, none⟩) ∧ t14 = .int .i64 C ∧ W6.heap.size ≤ p ∧ p < X.heap.size ∧ W6.heap.size ≤ q ∧ q < X.heap.size ∧ p ≠ q ∧ (X.cell? ⟨p, 0, none⟩ = some (.slice a NP c) ∧ X.cell? ⟨p, 1, none⟩ = some (.slice b NB d)) ∧ (X.cell? ⟨q, 0, none⟩ = some (.bool F.s) ∧ X.cell? ⟨q, 1, none⟩ = some (.int .i64 F.H.toInt) ∧ X.cell? ⟨q, 2, none⟩ = some (.int .i64 F.L.toInt) ∧ X.cell? ⟨q, 3, none⟩ = some (.int .i64 F.b)) ∧ ((∀ o, X.frozen? ⟨p, o, none⟩ = false) ∧ (∀ o, X.frozen? ⟨q, o, none⟩ = false)) ∧ OwnG KPl 46 X W6.heap.size (.slice a NP c) PS ∧ OwnG KBk 38 X W6.heap.size (.slice b NB d) BS ∧ (∀ k, (Value.slice a NP c).ownBlock = some k → (Value.slice b NB d).ownBlock ≠ some k) ∧ ((∀ k, (Value.slice a NP c).ownBlock = some k → k ≠ p) ∧ (∀ k, (Value.slice b NB d).ownBlock = some k → k ≠ p)) ∧ ((∀ k, (Value.slice a NP c).ownBlock = some k → k ≠ q) ∧ (∀ k, (Value.slice b NB d).ownBlock = some k → k ≠ q)) ∧ Below W6.heap.size W6 X)
      case first =>
        have HSx : Hid (∀ x, Below W6.heap.size W6 x → (x.cell? ⟨w5.heap.size, 0, none⟩ = some (.slice (some ⟨g2, 0, none⟩) np np) ∧ x.cell? ⟨w5.heap.size, 1, none⟩ = some (.slice (some ⟨h2, 0, none⟩) nb nb) ∧ x.cell? ⟨w.heap.size + 1, 0, none⟩ = some (.bool pt.s) ∧ x.cell? ⟨w.heap.size + 1, 1, none⟩ = some (.int .i64 pt.H.toInt) ∧ x.cell? ⟨w.heap.size + 1, 2, none⟩ = some (.int .i64 pt.L.toInt) ∧ x.cell? ⟨w.heap.size + 1, 3, none⟩ = some (.int .i64 pt.b) ∧ Below W6.heap.size W6 x)) := hidP fun x h =>
          ⟨(h.cell xaL_W6).trans xa0_W6, (h.cell xaL_W6).trans xa1_W6, (h.cell lqL_W6).trans lq0_W6, (h.cell lqL_W6).trans lq1_W6, (h.cell lqL_W6).trans lq2_W6, (h.cell lqL_W6).trans lq3_W6, h⟩
        refine wp_region_held_drew (S := (fun x => x.cell? ⟨w5.heap.size, 0, none⟩ = some (.slice (some ⟨g2, 0, none⟩) np np) ∧ x.cell? ⟨w5.heap.size, 1, none⟩ = some (.slice (some ⟨h2, 0, none⟩) nb nb) ∧ x.cell? ⟨w.heap.size + 1, 0, none⟩ = some (.bool pt.s) ∧ x.cell? ⟨w.heap.size + 1, 1, none⟩ = some (.int .i64 pt.H.toInt) ∧ x.cell? ⟨w.heap.size + 1, 2, none⟩ = some (.int .i64 pt.L.toInt) ∧ x.cell? ⟨w.heap.size + 1, 3, none⟩ = some (.int .i64 pt.b) ∧ Below W6.heap.size W6 x)) (by kernel_rfl) ?_ (fun hHeld => ?_)
        · try dsimp only
          exact HSx.out _ (Below.refl _ _).drew
        refine tk 0 42 rfl ?_
        simp only [pa]
        refine tk 1 43 rfl ?_
        simp only [pa]
        refine tk 3 45 rfl ?_
        simp only [pa]
        clear xa0_W6 xa1_W6 lq0_W6 lq1_W6 lq2_W6 lq3_W6
        refine run_inv (fun A listed a x => ∃ (b3 b5 b6 b7 b8 b9 b10 b11 b12 b13 b14 : Bool) (v3 v5 v6 v7 v8 v9 v10 v11 v14 : Value), listed = #[true, true, b3, true, b5, b6, b7, b8, b9, b10, b11, b12, b13, b14] ∧ a = (((((((((A.put (some 44) v3).put (some 46) v5).put (some 41) v6).put (some 47) v7).put (some 48) v8).put (some 49) v9).put (some 12) v10).put (some 13) v11).put (some 14) v14) ∧ CvR np nb ps bs NP PS BS pt F C W6.heap.size true b3 b5 b6 b7 b8 b9 b10 b11 b12 b13 b14 (.agg #[.slice (some ⟨g2, 0, none⟩) np np, .slice (some ⟨h2, 0, none⟩) nb nb]) v3 v5 v6 v7 v8 v9 v10 v11 v14 x) (by decide) hHeld ?_ ?_ ?_
        · refine ⟨false, false, false, false, false, false, false, false, false, false, false, u44, u46, u41, u47, u48, u49, undef, undef, undef, rfl, by simp only [pa], ?_⟩
          exact { f1 := (fun _ _ => ⟨g2, h2, rfl, RowG.later oX_W6.out.row (Below.refl _ _).drew, RowG.later oY_W6.out.row (Below.refl _ _).drew⟩), f3 := (fun e => by cases e), f5 := (fun e => by cases e), f6 := (fun e => by cases e), f8 := (fun e => by cases e), f9 := (fun e => by cases e), f14 := (fun e => by cases e), f10 := (fun e => by cases e), f11 := (fun e => by cases e), g := (fun e => by cases e), k1 := (fun e => by cases e), k2 := (fun e => by cases e), dd := (fun _ => ⟨rfl, rfl, rfl, rfl, rfl, rfl, rfl⟩) }
        · rintro listed a x i ⟨b3, b5, b6, b7, b8, b9, b10, b11, b12, b13, b14, v3, v5, v6, v7, v8, v9, v10, v11, v14, rfl, rfl, hF⟩ hHeld hi
          have HF := hidP hF
          have hun := ready_un hi
          have hlt := ready_lt hi
          have hSB := hidP (hHeld.2.2.2.2.2.2)
          clear hF
          match i, hlt with
          | 0, _ => exact absurd hun (by simp)
          | 1, _ => exact absurd hun (by simp)
          | 2, _ =>
            have e3 : b3 = false := hun
            subst e3
            refine wpOp_step rfl (fun K hK0 => ?_)
            have hK := (show Shut _ from hK0)
            clear hK0
            simp only [pa]
            go_simp
            go_wp2_with (first | (go_at_call 22; refine (HTp.out _).mono ?_; rintro e x2 ⟨rfl, hb2⟩))
            refine hK.out _ _ ⟨?_, ?_⟩
            · exact HSx.out _ (hSB.out.trans ((hb2).mono hSB.out.size))
            · refine ⟨true, b5, b6, b7, b8, b9, b10, b11, b12, b13, b14, _, v5, v6, v7, v8, v9, v10, v11, v14, rfl, by simp only [pa]; rfl, ?_⟩
              exact { f1 := (CvR.later HF.out (hb2)).f1, f3 := fun _ => rfl, f5 := (CvR.later HF.out (hb2)).f5, f6 := (CvR.later HF.out (hb2)).f6, f8 := (CvR.later HF.out (hb2)).f8, f9 := (CvR.later HF.out (hb2)).f9, f14 := (CvR.later HF.out (hb2)).f14, f10 := (CvR.later HF.out (hb2)).f10, f11 := (CvR.later HF.out (hb2)).f11, g := (CvR.later HF.out (hb2)).g, dd := (CvR.later HF.out (hb2)).dd, k1 := (CvR.later HF.out (hb2)).k1, k2 := (CvR.later HF.out (hb2)).k2 }
          | 3, _ => exact absurd hun (by simp)
          | 4, _ =>
            have e5 : b5 = false := hun
            subst e5
            have e3 : b3 = true := ready_dep 2 hi (by kernel_rfl)
            subst e3
            obtain ⟨d6, d7, d8, d9, d12, d13, d14⟩ := HF.out.dd rfl
            subst d6
            subst d7
            subst d8
            subst d9
            subst d12
            subst d13
            subst d14
            obtain ⟨gA, hA, eA, rA1, rA2⟩ := HF.out.f1 rfl rfl
            have eB := HF.out.f3 rfl
            subst eB
            simp only [Value.agg.injEq, Array.mk.injEq, List.cons.injEq, Value.slice.injEq, Option.some.injEq, Addr.mk.injEq, and_true] at eA
            obtain ⟨rfl, rfl⟩ := eA
            refine wpOp_step rfl (fun K hK0 => ?_)
            have hK := (show Shut _ from hK0)
            clear hK0
            simp only [pa]
            go_simp
            go_wp2_with (first | (go_at_call 8; refine (HIm.out g2 h2 _ rA1 rA2).mono ?_; rintro e x2 ⟨a2, c2, b2, _, d2, rfl, rfl, op2, ob2, ne2, hb2⟩))
            refine hK.out _ _ ⟨?_, ?_⟩
            · exact HSx.out _ (hSB.out.trans ((hb2).mono hSB.out.size))
            · refine ⟨true, true, false, false, false, false, b10, b11, false, false, false, _, _, v6, v7, v8, v9, v10, v11, v14, rfl, by simp only [pa]; rfl, ?_⟩
              exact { f1 := (fun _ e => by cases e), f3 := (CvR.later HF.out (hb2)).f3, f5 := fun _ => ⟨_, _, _, _, _, rfl, ⟨rfl, OwnG.mono op2 hSB.out.size, OwnG.mono ob2 hSB.out.size, ne2⟩, (fun e p ep => by obtain ⟨p', ep', _, lp, _⟩ := HF.out.f10 e; have h9 := ptr_inj (ep.symm.trans ep'); exact ⟨(fun k hk => by have := (OwnG.lt op2 k hk).1; omega), (fun k hk => by have := (OwnG.lt ob2 k hk).1; omega)⟩), (fun e p ep => by obtain ⟨p', ep', _, lp, _⟩ := HF.out.f11 e; have h9 := ptr_inj (ep.symm.trans ep'); exact ⟨(fun k hk => by have := (OwnG.lt op2 k hk).1; omega), (fun k hk => by have := (OwnG.lt ob2 k hk).1; omega)⟩), (fun e => by cases e), (fun e => by cases e)⟩, f6 := (fun e => by cases e), f8 := (fun e => by cases e), f9 := (fun e => by cases e), f14 := (fun e => by cases e), f10 := (CvR.later HF.out (hb2)).f10, f11 := (CvR.later HF.out (hb2)).f11, g := (CvR.later HF.out (hb2)).g, dd := (fun e => by cases e), k1 := (fun e => by cases e), k2 := (fun e => by cases e) }
          | 5, _ =>
            have e6 : b6 = false := hun
            subst e6
            have e5 : b5 = true := ready_dep 4 hi (by kernel_rfl)
            subst e5
            refine wpOp_step rfl (fun K hK0 => ?_)
            have hK := (show Shut _ from hK0)
            clear hK0
            simp only [pa]
            go_simp
            refine hK.out _ _ ⟨?_, ?_⟩
            · exact HSx.out _ (hSB.out.trans ((Below.refl _ _).mono hSB.out.size))
            · refine ⟨b3, true, true, b7, b8, b9, b10, b11, b12, b13, b14, v3, v5, _, v7, v8, v9, v10, v11, v14, rfl, by simp only [pa]; rfl, ?_⟩
              exact { f1 := (CvR.later HF.out (Below.refl _ _)).f1, f3 := (CvR.later HF.out (Below.refl _ _)).f3, f5 := (CvR.later HF.out (Below.refl _ _)).f5, f6 := fun _ => rfl, f8 := (CvR.later HF.out (Below.refl _ _)).f8, f9 := (CvR.later HF.out (Below.refl _ _)).f9, f14 := (CvR.later HF.out (Below.refl _ _)).f14, f10 := (CvR.later HF.out (Below.refl _ _)).f10, f11 := (CvR.later HF.out (Below.refl _ _)).f11, g := (CvR.later HF.out (Below.refl _ _)).g, dd := (fun e => by cases e), k1 := (CvR.later HF.out (Below.refl _ _)).k1, k2 := (CvR.later HF.out (Below.refl _ _)).k2 }
          | 6, _ =>
            have e7 : b7 = false := hun
            subst e7
            have e6 : b6 = true := ready_dep 5 hi (by kernel_rfl)
            subst e6
            have e5 : b5 = true := by cases b5; exact absurd (HF.out.dd rfl).1 (by simp); rfl
            subst e5
            obtain ⟨a, c, b, n, d, e5', hR, x1, x2, x3, x4⟩ := HF.out.f5 rfl
            have e6' := HF.out.f6 rfl
            subst e6'
            subst e5'
            have HX := hidP (And.intro hR (And.intro x1 (And.intro x2 (And.intro x3 x4))))
            clear hR x1 x2 x3 x4
            refine wpOp_step rfl (fun K hK0 => ?_)
            have hK := (show Shut _ from hK0)
            clear hK0
            simp only [pa]
            go_simp
            refine hK.out _ _ ⟨?_, ?_⟩
            · exact HSx.out _ (hSB.out.trans ((Below.refl _ _).mono hSB.out.size))
            · refine ⟨b3, true, true, true, b8, b9, b10, b11, b12, b13, b14, v3, _, _, _, v8, v9, v10, v11, v14, rfl, by simp only [pa]; rfl, ?_⟩
              exact { f1 := (CvR.later HF.out (Below.refl _ _)).f1, f3 := (CvR.later HF.out (Below.refl _ _)).f3, f5 := fun _ => ⟨_, _, _, _, _, rfl, HX.out.1, HX.out.2.1, HX.out.2.2.1, fun _ => rfl, HX.out.2.2.2.2⟩, f6 := (CvR.later HF.out (Below.refl _ _)).f6, f8 := (CvR.later HF.out (Below.refl _ _)).f8, f9 := (CvR.later HF.out (Below.refl _ _)).f9, f14 := (CvR.later HF.out (Below.refl _ _)).f14, f10 := (CvR.later HF.out (Below.refl _ _)).f10, f11 := (CvR.later HF.out (Below.refl _ _)).f11, g := (CvR.later HF.out (Below.refl _ _)).g, dd := (fun e => by cases e), k1 := (CvR.later HF.out (Below.refl _ _)).k1, k2 := (CvR.later HF.out (Below.refl _ _)).k2 }
          | 7, _ =>
            have e8 : b8 = false := hun
            subst e8
            have e6 : b6 = true := ready_dep 5 hi (by kernel_rfl)
            subst e6
            have e5 : b5 = true := by cases b5; exact absurd (HF.out.dd rfl).1 (by simp); rfl
            subst e5
            obtain ⟨a, c, b, n, d, e5', hR, x1, x2, x3, x4⟩ := HF.out.f5 rfl
            have e6' := HF.out.f6 rfl
            subst e6'
            subst e5'
            have HX := hidP (And.intro hR (And.intro x1 (And.intro x2 (And.intro x3 x4))))
            clear hR x1 x2 x3 x4
            refine wpOp_step rfl (fun K hK0 => ?_)
            have hK := (show Shut _ from hK0)
            clear hK0
            simp only [pa]
            go_simp
            refine hK.out _ _ ⟨?_, ?_⟩
            · exact HSx.out _ (hSB.out.trans ((Below.refl _ _).mono hSB.out.size))
            · refine ⟨b3, true, true, b7, true, b9, b10, b11, b12, b13, b14, v3, _, _, v7, _, v9, v10, v11, v14, rfl, by simp only [pa]; rfl, ?_⟩
              exact { f1 := (CvR.later HF.out (Below.refl _ _)).f1, f3 := (CvR.later HF.out (Below.refl _ _)).f3, f5 := (CvR.later HF.out (Below.refl _ _)).f5, f6 := (CvR.later HF.out (Below.refl _ _)).f6, f8 := fun _ => rfl, f9 := (CvR.later HF.out (Below.refl _ _)).f9, f14 := (CvR.later HF.out (Below.refl _ _)).f14, f10 := (CvR.later HF.out (Below.refl _ _)).f10, f11 := (CvR.later HF.out (Below.refl _ _)).f11, g := (CvR.later HF.out (Below.refl _ _)).g, dd := (fun e => by cases e), k1 := (CvR.later HF.out (Below.refl _ _)).k1, k2 := (CvR.later HF.out (Below.refl _ _)).k2 }
          | 8, _ =>
            have e9 : b9 = false := hun
            subst e9
            have e6 : b6 = true := ready_dep 5 hi (by kernel_rfl)
            subst e6
            have e5 : b5 = true := by cases b5; exact absurd (HF.out.dd rfl).1 (by simp); rfl
            subst e5
            obtain ⟨a, c, b, n, d, e5', hR, x1, x2, x3, x4⟩ := HF.out.f5 rfl
            have e6' := HF.out.f6 rfl
            subst e6'
            subst e5'
            have HX := hidP (And.intro hR (And.intro x1 (And.intro x2 (And.intro x3 x4))))
            clear hR x1 x2 x3 x4
            refine wpOp_step rfl (fun K hK0 => ?_)
            have hK := (show Shut _ from hK0)
            clear hK0
            simp only [pa]
            go_simp
            refine hK.out _ _ ⟨?_, ?_⟩
            · exact HSx.out _ (hSB.out.trans ((Below.refl _ _).mono hSB.out.size))
            · refine ⟨b3, true, true, b7, b8, true, b10, b11, b12, b13, b14, v3, _, _, v7, v8, _, v10, v11, v14, rfl, by simp only [pa]; rfl, ?_⟩
              exact { f1 := (CvR.later HF.out (Below.refl _ _)).f1, f3 := (CvR.later HF.out (Below.refl _ _)).f3, f5 := (CvR.later HF.out (Below.refl _ _)).f5, f6 := (CvR.later HF.out (Below.refl _ _)).f6, f8 := (CvR.later HF.out (Below.refl _ _)).f8, f9 := fun _ => rfl, f14 := (CvR.later HF.out (Below.refl _ _)).f14, f10 := (CvR.later HF.out (Below.refl _ _)).f10, f11 := (CvR.later HF.out (Below.refl _ _)).f11, g := (CvR.later HF.out (Below.refl _ _)).g, dd := (fun e => by cases e), k1 := (CvR.later HF.out (Below.refl _ _)).k1, k2 := (CvR.later HF.out (Below.refl _ _)).k2 }
          | 9, _ =>
            have e10 : b10 = false := hun
            subst e10
            have hba := alloc_below x (.cells #[.slice none 0 0, .slice none 0 0] 27)
            have d12 : b12 = false := by cases b12; rfl; exact absurd (HF.out.k1 rfl) (by simp)
            subst d12
            refine wpOp_step rfl (fun K hK0 => ?_)
            have hK := (show Shut _ from hK0)
            clear hK0
            simp only [pa]
            go_simp
            refine hK.out _ _ ⟨?_, ?_⟩
            · exact HSx.out _ (hSB.out.trans ((hba).mono hSB.out.size))
            · refine ⟨b3, b5, b6, b7, b8, b9, true, b11, false, b13, b14, v3, v5, v6, v7, v8, v9, _, v11, v14, rfl, by simp only [pa]; rfl, ?_⟩
              exact { f1 := (CvR.later HF.out (hba)).f1, f3 := (CvR.later HF.out (hba)).f3, f5 := (fun e => by
                obtain ⟨a, c, b, n, d, e1, ⟨n1, o1, o2, o3⟩, x1, x2, x3, x4⟩ := HF.out.f5 e
                exact ⟨a, c, b, n, d, e1, ⟨n1, OwnG.later o1 hba, OwnG.later o2 hba, o3⟩, (fun _ p ep => by have h9 := ptr_inj ep; exact ⟨(fun k hk => by have := (OwnG.lt o1 k hk).2; omega), (fun k hk => by have := (OwnG.lt o2 k hk).2; omega)⟩), x2, x3, (fun e => by cases e)⟩), f6 := (CvR.later HF.out (hba)).f6, f8 := (CvR.later HF.out (hba)).f8, f9 := (CvR.later HF.out (hba)).f9, f14 := (CvR.later HF.out (hba)).f14, f10 := fun _ => ⟨_, rfl, hSB.out.size, by simp, (fun o => by simp [go_sem]), fun _ => ⟨by simp [go_sem], by simp [go_sem]⟩⟩, f11 := (CvR.later HF.out (hba)).f11, g := fun _ e p q ep eq => by obtain ⟨q', eq', _, lq, _⟩ := HF.out.f11 e; have h9 := ptr_inj (eq.symm.trans eq'); have h8 := ptr_inj ep; omega, dd := (CvR.later HF.out (hba)).dd, k1 := (fun e => by cases e), k2 := (CvR.later HF.out (hba)).k2 }
          | 10, _ =>
            have e11 : b11 = false := hun
            subst e11
            have hba := alloc_below x (.cells #[.bool false, .int .i64 0, .int .i64 0, .int .i64 0] 31)
            have d13 : b13 = false := by cases b13; rfl; exact absurd (HF.out.k2 rfl).1 (by simp)
            subst d13
            refine wpOp_step rfl (fun K hK0 => ?_)
            have hK := (show Shut _ from hK0)
            clear hK0
            simp only [pa]
            go_simp
            refine hK.out _ _ ⟨?_, ?_⟩
            · exact HSx.out _ (hSB.out.trans ((hba).mono hSB.out.size))
            · refine ⟨b3, b5, b6, b7, b8, b9, b10, true, b12, false, b14, v3, v5, v6, v7, v8, v9, v10, _, v14, rfl, by simp only [pa]; rfl, ?_⟩
              exact { f1 := (CvR.later HF.out (hba)).f1, f3 := (CvR.later HF.out (hba)).f3, f5 := (fun e => by
                obtain ⟨a, c, b, n, d, e1, ⟨n1, o1, o2, o3⟩, x1, x2, x3, x4⟩ := HF.out.f5 e
                exact ⟨a, c, b, n, d, e1, ⟨n1, OwnG.later o1 hba, OwnG.later o2 hba, o3⟩, x1, (fun _ p ep => by have h9 := ptr_inj ep; exact ⟨(fun k hk => by have := (OwnG.lt o1 k hk).2; omega), (fun k hk => by have := (OwnG.lt o2 k hk).2; omega)⟩), x3, (fun e2 p ep => by obtain ⟨p', ep', _, lp, _⟩ := HF.out.f10 (HF.out.k1 e2); have h9 := ptr_inj (ep.symm.trans ep'); subst h9; exact cells2 lp hba (x4 e2 _ ep))⟩), f6 := (CvR.later HF.out (hba)).f6, f8 := (CvR.later HF.out (hba)).f8, f9 := (CvR.later HF.out (hba)).f9, f14 := (CvR.later HF.out (hba)).f14, f10 := (CvR.later HF.out (hba)).f10, f11 := fun _ => ⟨_, rfl, hSB.out.size, by simp, (fun o => by simp [go_sem]), fun _ => ⟨by simp [go_sem], by simp [go_sem], by simp [go_sem], by simp [go_sem]⟩, (fun e => by cases e)⟩, g := fun e _ p q ep eq => by obtain ⟨p', ep', _, lp, _⟩ := HF.out.f10 e; have h9 := ptr_inj (ep.symm.trans ep'); have h8 := ptr_inj eq; omega, dd := (CvR.later HF.out (hba)).dd, k1 := (CvR.later HF.out (hba)).k1, k2 := (fun e => by cases e) }
          | 11, _ =>
            have e12 : b12 = false := hun
            subst e12
            have e3 : b3 = true := ready_dep 2 hi (by kernel_rfl)
            subst e3
            have e5 : b5 = true := ready_dep 4 hi (by kernel_rfl)
            subst e5
            have e6 : b6 = true := ready_dep 5 hi (by kernel_rfl)
            subst e6
            have e7 : b7 = true := ready_dep 6 hi (by kernel_rfl)
            subst e7
            have e10 : b10 = true := ready_dep 9 hi (by kernel_rfl)
            subst e10
            have e11 : b11 = true := ready_dep 10 hi (by kernel_rfl)
            subst e11
            have d13 : b13 = false := by cases b13; rfl; exact absurd (HF.out.k2 rfl).2 (by simp)
            subst d13
            obtain ⟨a, c, b, _, d, e5', ⟨rfl, oP, oB, hne⟩, x1, x2, x3, x4⟩ := HF.out.f5 rfl
            subst e5'
            obtain ⟨p, ep, lp1, lp2, fp, cp0⟩ := HF.out.f10 rfl
            obtain ⟨q, eq, lq1, lq2, fq, cq0, cq1⟩ := HF.out.f11 rfl
            have hpq := HF.out.g rfl rfl p q ep eq
            have n1 := x1 rfl p ep
            have n2 := x2 rfl q eq
            have e7 := x3 rfl
            subst ep
            subst eq
            subst e7
            have z := cp0 rfl
            have z0 := z.1
            have z1 := z.2
            clear z
            refine wpOp_step rfl (fun K hK0 => ?_)
            have hK := (show Shut _ from hK0)
            clear hK0
            simp only [pa]
            go_simp
            refine hK.out _ _ ⟨?_, ?_⟩
            · exact HSx.out _ (((hSB.out).setCell lp1 _).setCell lp1 _)
            · refine ⟨true, true, true, true, b8, b9, true, true, true, false, b14, v3, _, v6, _, v8, v9, _, _, v14, rfl, by simp only [pa]; rfl, ?_⟩
              exact { f1 := (fun _ e => by cases e), f3 := HF.out.f3, f5 := fun _ => ⟨a, c, b, _, d, rfl, ⟨rfl, (OwnG.grown (OwnG.grown oP (grown_cellG _ _ _ _) (fun k hk e => n1.1 k hk (by simpa using e.symm))) (grown_cellG _ _ _ _) (fun k hk e => n1.1 k hk (by simpa using e.symm))), (OwnG.grown (OwnG.grown oB (grown_cellG _ _ _ _) (fun k hk e => n1.2 k hk (by simpa using e.symm))) (grown_cellG _ _ _ _) (fun k hk e => n1.2 k hk (by simpa using e.symm))), hne⟩, x1, x2, fun _ => rfl, (fun _ p' ep' => by have h9 := ptr_inj ep'; subst h9; exact ⟨by simp [go_sem, z0], by simp [go_sem, z1]⟩)⟩, f6 := HF.out.f6, f8 := HF.out.f8, f9 := HF.out.f9, f14 := HF.out.f14, f10 := fun _ => ⟨p, rfl, lp1, by simpa using lp2, (fun o => (frzC (frzC (fp o)))), (fun e => by cases e)⟩, f11 := fun _ => ⟨q, rfl, lq1, by simpa using lq2, (fun o => (frzC (frzC (fq o)))), (fun _ => ⟨(cellC (cellC (cq0 rfl).1 hpq.symm) hpq.symm), (cellC (cellC (cq0 rfl).2.1 hpq.symm) hpq.symm), (cellC (cellC (cq0 rfl).2.2.1 hpq.symm) hpq.symm), (cellC (cellC (cq0 rfl).2.2.2 hpq.symm) hpq.symm)⟩), (fun e => by cases e)⟩, g := HF.out.g, dd := (fun e => by cases e), k1 := fun _ => rfl, k2 := (fun e => by cases e) }
          | 12, _ =>
            have e13 : b13 = false := hun
            subst e13
            have e3 : b3 = true := ready_dep 2 hi (by kernel_rfl)
            subst e3
            have e5 : b5 = true := ready_dep 4 hi (by kernel_rfl)
            subst e5
            have e6 : b6 = true := ready_dep 5 hi (by kernel_rfl)
            subst e6
            have e7 : b7 = true := ready_dep 6 hi (by kernel_rfl)
            subst e7
            have e8 : b8 = true := ready_dep 7 hi (by kernel_rfl)
            subst e8
            have e10 : b10 = true := ready_dep 9 hi (by kernel_rfl)
            subst e10
            have e11 : b11 = true := ready_dep 10 hi (by kernel_rfl)
            subst e11
            have e12 : b12 = true := ready_dep 11 hi (by kernel_rfl)
            subst e12
            obtain ⟨a, c, b, _, d, e5', ⟨rfl, oP, oB, hne⟩, x1, x2, x3, x4⟩ := HF.out.f5 rfl
            subst e5'
            obtain ⟨p, ep, lp1, lp2, fp, cp0⟩ := HF.out.f10 rfl
            obtain ⟨q, eq, lq1, lq2, fq, cq0, cq1⟩ := HF.out.f11 rfl
            have hpq := HF.out.g rfl rfl p q ep eq
            have n1 := x1 rfl p ep
            have n2 := x2 rfl q eq
            have e7 := x3 rfl
            subst ep
            subst eq
            subst e7
            have e8 := HF.out.f8 rfl
            subst e8
            have z := cq0 rfl
            have z0 := z.1
            have z1 := z.2.1
            have z2 := z.2.2.1
            have z3 := z.2.2.2
            clear z
            have y := x4 rfl p rfl
            refine wpOp_step rfl (fun K hK0 => ?_)
            have hK := (show Shut _ from hK0)
            clear hK0
            simp only [pa]
            go_simp
            refine hK.out _ _ ⟨?_, ?_⟩
            · exact HSx.out _ (((((hSB.out).setCell lq1 _).setCell lq1 _).setCell lq1 _).setCell lq1 _)
            · refine ⟨true, true, true, true, true, b9, true, true, true, true, b14, v3, _, v6, _, _, v9, _, _, v14, rfl, by simp only [pa]; rfl, ?_⟩
              exact { f1 := (fun _ e => by cases e), f3 := HF.out.f3, f5 := fun _ => ⟨a, c, b, _, d, rfl, ⟨rfl, (OwnG.grown (OwnG.grown (OwnG.grown (OwnG.grown oP (grown_cellG _ _ _ _) (fun k hk e => n2.1 k hk (by simpa using e.symm))) (grown_cellG _ _ _ _) (fun k hk e => n2.1 k hk (by simpa using e.symm))) (grown_cellG _ _ _ _) (fun k hk e => n2.1 k hk (by simpa using e.symm))) (grown_cellG _ _ _ _) (fun k hk e => n2.1 k hk (by simpa using e.symm))), (OwnG.grown (OwnG.grown (OwnG.grown (OwnG.grown oB (grown_cellG _ _ _ _) (fun k hk e => n2.2 k hk (by simpa using e.symm))) (grown_cellG _ _ _ _) (fun k hk e => n2.2 k hk (by simpa using e.symm))) (grown_cellG _ _ _ _) (fun k hk e => n2.2 k hk (by simpa using e.symm))) (grown_cellG _ _ _ _) (fun k hk e => n2.2 k hk (by simpa using e.symm))), hne⟩, x1, x2, fun _ => rfl, (fun _ p' ep' => by have h9 := ptr_inj ep'; subst h9; exact ⟨(cellC (cellC (cellC (cellC y.1 hpq) hpq) hpq) hpq), (cellC (cellC (cellC (cellC y.2 hpq) hpq) hpq) hpq)⟩)⟩, f6 := HF.out.f6, f8 := fun _ => rfl, f9 := HF.out.f9, f14 := HF.out.f14, f10 := fun _ => ⟨p, rfl, lp1, by simpa using lp2, (fun o => (frzC (frzC (frzC (frzC (fp o)))))), (fun e => by cases e)⟩, f11 := fun _ => ⟨q, rfl, lq1, by simpa using lq2, (fun o => (frzC (frzC (frzC (frzC (fq o)))))), (fun e => by cases e), (fun _ => ⟨by simp [go_sem, z0], by simp [go_sem, z1], by simp [go_sem, z2], by simp [go_sem, z3]⟩)⟩, g := HF.out.g, dd := (fun e => by cases e), k1 := fun _ => rfl, k2 := fun _ => ⟨rfl, rfl⟩ }
          | 13, _ =>
            have e14 : b14 = false := hun
            subst e14
            have e3 : b3 = true := ready_dep 2 hi (by kernel_rfl)
            subst e3
            have e5 : b5 = true := ready_dep 4 hi (by kernel_rfl)
            subst e5
            have e6 : b6 = true := ready_dep 5 hi (by kernel_rfl)
            subst e6
            have e7 : b7 = true := ready_dep 6 hi (by kernel_rfl)
            subst e7
            have e8 : b8 = true := ready_dep 7 hi (by kernel_rfl)
            subst e8
            have e9 : b9 = true := ready_dep 8 hi (by kernel_rfl)
            subst e9
            have e10 : b10 = true := ready_dep 9 hi (by kernel_rfl)
            subst e10
            have e11 : b11 = true := ready_dep 10 hi (by kernel_rfl)
            subst e11
            have e12 : b12 = true := ready_dep 11 hi (by kernel_rfl)
            subst e12
            have e13 : b13 = true := ready_dep 12 hi (by kernel_rfl)
            subst e13
            have e9' := HF.out.f9 rfl
            subst e9'
            refine wpOp_step rfl (fun K hK0 => ?_)
            have hK := (show Shut _ from hK0)
            clear hK0
            simp only [pa]
            go_simp
            refine hK.out _ _ ⟨?_, ?_⟩
            · exact HSx.out _ (hSB.out.trans ((Below.refl _ _).mono hSB.out.size))
            · refine ⟨true, true, true, true, true, true, true, true, true, true, true, v3, v5, v6, v7, v8, _, v10, v11, _, rfl, by simp only [pa]; rfl, ?_⟩
              exact { f1 := (CvR.later HF.out (Below.refl _ _)).f1, f3 := (CvR.later HF.out (Below.refl _ _)).f3, f5 := (CvR.later HF.out (Below.refl _ _)).f5, f6 := (CvR.later HF.out (Below.refl _ _)).f6, f8 := (CvR.later HF.out (Below.refl _ _)).f8, f9 := (CvR.later HF.out (Below.refl _ _)).f9, f14 := fun _ => rfl, f10 := (CvR.later HF.out (Below.refl _ _)).f10, f11 := (CvR.later HF.out (Below.refl _ _)).f11, g := (CvR.later HF.out (Below.refl _ _)).g, dd := (fun e => by cases e), k1 := (CvR.later HF.out (Below.refl _ _)).k1, k2 := (CvR.later HF.out (Below.refl _ _)).k2 }
          | j + 14, h => exact absurd h (by simp)
        · rintro listed a x ⟨b3, b5, b6, b7, b8, b9, b10, b11, b12, b13, b14, v3, v5, v6, v7, v8, v9, v10, v11, v14, rfl, rfl, hF⟩ hHeld hnil
          have hno : ∀ i, i ∈ Region.ready .any _ _ → False := fun i h => by rw [hnil] at h; cases h
          have e3 : b3 = true := by
            cases b3
            · exact (hno 2 (ready_in (by decide) (by kernel_rfl))).elim
            · rfl
          subst e3
          have e5 : b5 = true := by
            cases b5
            · exact (hno 4 (ready_in (by decide) (by kernel_rfl))).elim
            · rfl
          subst e5
          have e6 : b6 = true := by
            cases b6
            · exact (hno 5 (ready_in (by decide) (by kernel_rfl))).elim
            · rfl
          subst e6
          have e7 : b7 = true := by
            cases b7
            · exact (hno 6 (ready_in (by decide) (by kernel_rfl))).elim
            · rfl
          subst e7
          have e8 : b8 = true := by
            cases b8
            · exact (hno 7 (ready_in (by decide) (by kernel_rfl))).elim
            · rfl
          subst e8
          have e9 : b9 = true := by
            cases b9
            · exact (hno 8 (ready_in (by decide) (by kernel_rfl))).elim
            · rfl
          subst e9
          have e10 : b10 = true := by
            cases b10
            · exact (hno 9 (ready_in (by decide) (by kernel_rfl))).elim
            · rfl
          subst e10
          have e11 : b11 = true := by
            cases b11
            · exact (hno 10 (ready_in (by decide) (by kernel_rfl))).elim
            · rfl
          subst e11
          have e12 : b12 = true := by
            cases b12
            · exact (hno 11 (ready_in (by decide) (by kernel_rfl))).elim
            · rfl
          subst e12
          have e13 : b13 = true := by
            cases b13
            · exact (hno 12 (ready_in (by decide) (by kernel_rfl))).elim
            · rfl
          subst e13
          have e14 : b14 = true := by
            cases b14
            · exact (hno 13 (ready_in (by decide) (by kernel_rfl))).elim
            · rfl
          subst e14
          obtain ⟨a, c, b, n, d, e5', ⟨hn, oP, oB, hne⟩, x1, x2, x3, x4⟩ := hF.f5 rfl
          obtain ⟨p, ep, lp1, lp2, fp, _⟩ := hF.f10 rfl
          obtain ⟨q, eq, lq1, lq2, fq, _, cq⟩ := hF.f11 rfl
          have hpq := hF.g rfl rfl p q ep eq
          have m1 := x1 rfl p ep
          have m2 := x2 rfl q eq
          have y := x4 rfl p ep
          have e14' := hF.f14 rfl
          subst ep
          subst eq
          subst e14'
          have HB := hidP (hHeld.2.2.2.2.2.2)
          have hnn := hn.trans HNB.out.symm
          subst hnn
          have HZ := hidP (And.intro oP (And.intro oB (And.intro hne (And.intro m1 (And.intro m2 (And.intro y (cq rfl)))))))
          clear hHeld hF hnil hno x1 x2 x3 x4 m1 m2 y cq oP oB hne hn e5'
          simp only [pa]
          go_wp2_with fail
          go_meet
          exact ⟨p, q, a, c, b, d, rfl, rfl, rfl, lp1, lp2, lq1, lq2, hpq, HZ.out.2.2.2.2.2.1, HZ.out.2.2.2.2.2.2, ⟨fp, fq⟩, HZ.out.1, HZ.out.2.1, HZ.out.2.2.1, HZ.out.2.2.2.1, HZ.out.2.2.2.2.1, HB.out⟩
      case rest =>
        obtain ⟨wc2, hwc⟩ : ∃ X, X = wc := ⟨_, rfl⟩
        subst hwc
        obtain ⟨imB, jfB, a2, c2, b2, d2, rfl, rfl, rfl, hp1, imL_wc2, hq1, jfL_wc2, hpq2, ⟨im0_wc2, im1_wc2⟩, ⟨jf0_wc2, jf1_wc2, jf2_wc2, jf3_wc2⟩, ⟨imF_wc2, jfF_wc2⟩, oX, oY, ne2, m1, m2, hX⟩ := hcut
        have HP2 : Hid (W6.heap.size ≤ imB ∧ W6.heap.size ≤ jfB ∧ imB < wc2.heap.size ∧ jfB < wc2.heap.size) := hidP ⟨hp1, hq1, imL_wc2, jfL_wc2⟩
        have HM2 := hidP (And.intro m1 m2)
        have HNE2 := hidP ne2
        have OX := hidP (And.intro oX oY)
        clear oX oY m1 m2 ne2 hp1 hq1
        have lp0_wc2 := (hX.cell lpL_W6).trans lp0_W6
        have lp1_wc2 := (hX.cell lpL_W6).trans lp1_W6
        have lpF_wc2 : ∀ o, wc2.frozen? ⟨w.heap.size, o, none⟩ = false := fun o => (hX.frozen lpL_W6).trans (lpF_W6 o)
        have lpL_wc2 : w.heap.size < wc2.heap.size := Nat.lt_of_lt_of_le lpL_W6 hX.size
        have lq0_wc2 := (hX.cell lqL_W6).trans lq0_W6
        have lq1_wc2 := (hX.cell lqL_W6).trans lq1_W6
        have lq2_wc2 := (hX.cell lqL_W6).trans lq2_W6
        have lq3_wc2 := (hX.cell lqL_W6).trans lq3_W6
        have lqF_wc2 : ∀ o, wc2.frozen? ⟨w.heap.size + 1, o, none⟩ = false := fun o => (hX.frozen lqL_W6).trans (lqF_W6 o)
        have lqL_wc2 : w.heap.size + 1 < wc2.heap.size := Nat.lt_of_lt_of_le lqL_W6 hX.size
        have sp0_wc2 := (hX.cell spL_W6).trans sp0_W6
        have sp1_wc2 := (hX.cell spL_W6).trans sp1_W6
        have spF_wc2 : ∀ o, wc2.frozen? ⟨spB, o, none⟩ = false := fun o => (hX.frozen spL_W6).trans (spF_W6 o)
        have spL_wc2 : spB < wc2.heap.size := Nat.lt_of_lt_of_le spL_W6 hX.size
        have sf0_wc2 := (hX.cell sfL_W6).trans sf0_W6
        have sf1_wc2 := (hX.cell sfL_W6).trans sf1_W6
        have sf2_wc2 := (hX.cell sfL_W6).trans sf2_W6
        have sf3_wc2 := (hX.cell sfL_W6).trans sf3_W6
        have sfF_wc2 : ∀ o, wc2.frozen? ⟨sfB, o, none⟩ = false := fun o => (hX.frozen sfL_W6).trans (sfF_W6 o)
        have sfL_wc2 : sfB < wc2.heap.size := Nat.lt_of_lt_of_le sfL_W6 hX.size
        have xa0_wc2 := (hX.cell xaL_W6).trans xa0_W6
        have xa1_wc2 := (hX.cell xaL_W6).trans xa1_W6
        have xaF_wc2 : ∀ o, wc2.frozen? ⟨w5.heap.size, o, none⟩ = false := fun o => (hX.frozen xaL_W6).trans (xaF_W6 o)
        have xaL_wc2 : w5.heap.size < wc2.heap.size := Nat.lt_of_lt_of_le xaL_W6 hX.size
        have oS_wc2 := hidP (OwnG.later oS_W6.out hX)
        have oT_wc2 := hidP (OwnG.later oT_W6.out hX)
        have oX_wc2 := hidP (OwnG.later oX_W6.out hX)
        have oY_wc2 := hidP (OwnG.later oY_W6.out hX)
        have acc_wc2 := hidP (acc_W6.out.trans (hX.mono acc_W6.out.size))
        have sz_wc2 : Hid (W6.heap.size ≤ wc2.heap.size) := hidP hX.size
        clear hX lp0_W6 lp1_W6 lpF_W6 lpL_W6 lq0_W6 lq1_W6 lq2_W6 lq3_W6 lqF_W6 lqL_W6 sp0_W6 sp1_W6 spF_W6 spL_W6 sf0_W6 sf1_W6 sf2_W6 sf3_W6 sfF_W6 sfL_W6 xa0_W6 xa1_W6 xaF_W6 xaL_W6 oS_W6 oT_W6 oX_W6 oY_W6 acc_W6
        have oI_wc2 := hidP (OX.out.1)
        have lhI : Hid (∀ k, (Value.slice a2 NP c2).ownBlock = some k → W6.heap.size ≤ k ∧ k < wc2.heap.size) := hidP (fun k hk => OwnG.lt oI_wc2.out k hk)
        have oJ_wc2 := hidP (OX.out.2)
        have lhJ : Hid (∀ k, (Value.slice b2 NB d2).ownBlock = some k → W6.heap.size ≤ k ∧ k < wc2.heap.size) := hidP (fun k hk => OwnG.lt oJ_wc2.out k hk)
        clear OX
        go_wp2_with fail
        refine (HEr.out _ a2 c2 b2 d2 a1 c1 b1 d1 oI_wc2.out.row oS_wc2.out.row oJ_wc2.out.row oT_wc2.out.row).mono ?_
        rintro e w8 ⟨rfl, hb_w8⟩
        have lp0_w8 := (hb_w8.cell lpL_wc2).trans lp0_wc2
        have lp1_w8 := (hb_w8.cell lpL_wc2).trans lp1_wc2
        have lpF_w8 : ∀ o, w8.frozen? ⟨w.heap.size, o, none⟩ = false := fun o => (hb_w8.frozen lpL_wc2).trans (lpF_wc2 o)
        have lpL_w8 : w.heap.size < w8.heap.size := Nat.lt_of_lt_of_le lpL_wc2 hb_w8.size
        have lq0_w8 := (hb_w8.cell lqL_wc2).trans lq0_wc2
        have lq1_w8 := (hb_w8.cell lqL_wc2).trans lq1_wc2
        have lq2_w8 := (hb_w8.cell lqL_wc2).trans lq2_wc2
        have lq3_w8 := (hb_w8.cell lqL_wc2).trans lq3_wc2
        have lqF_w8 : ∀ o, w8.frozen? ⟨w.heap.size + 1, o, none⟩ = false := fun o => (hb_w8.frozen lqL_wc2).trans (lqF_wc2 o)
        have lqL_w8 : w.heap.size + 1 < w8.heap.size := Nat.lt_of_lt_of_le lqL_wc2 hb_w8.size
        have sp0_w8 := (hb_w8.cell spL_wc2).trans sp0_wc2
        have sp1_w8 := (hb_w8.cell spL_wc2).trans sp1_wc2
        have spF_w8 : ∀ o, w8.frozen? ⟨spB, o, none⟩ = false := fun o => (hb_w8.frozen spL_wc2).trans (spF_wc2 o)
        have spL_w8 : spB < w8.heap.size := Nat.lt_of_lt_of_le spL_wc2 hb_w8.size
        have sf0_w8 := (hb_w8.cell sfL_wc2).trans sf0_wc2
        have sf1_w8 := (hb_w8.cell sfL_wc2).trans sf1_wc2
        have sf2_w8 := (hb_w8.cell sfL_wc2).trans sf2_wc2
        have sf3_w8 := (hb_w8.cell sfL_wc2).trans sf3_wc2
        have sfF_w8 : ∀ o, w8.frozen? ⟨sfB, o, none⟩ = false := fun o => (hb_w8.frozen sfL_wc2).trans (sfF_wc2 o)
        have sfL_w8 : sfB < w8.heap.size := Nat.lt_of_lt_of_le sfL_wc2 hb_w8.size
        have xa0_w8 := (hb_w8.cell xaL_wc2).trans xa0_wc2
        have xa1_w8 := (hb_w8.cell xaL_wc2).trans xa1_wc2
        have xaF_w8 : ∀ o, w8.frozen? ⟨w5.heap.size, o, none⟩ = false := fun o => (hb_w8.frozen xaL_wc2).trans (xaF_wc2 o)
        have xaL_w8 : w5.heap.size < w8.heap.size := Nat.lt_of_lt_of_le xaL_wc2 hb_w8.size
        have im0_w8 := (hb_w8.cell imL_wc2).trans im0_wc2
        have im1_w8 := (hb_w8.cell imL_wc2).trans im1_wc2
        have imF_w8 : ∀ o, w8.frozen? ⟨imB, o, none⟩ = false := fun o => (hb_w8.frozen imL_wc2).trans (imF_wc2 o)
        have imL_w8 : imB < w8.heap.size := Nat.lt_of_lt_of_le imL_wc2 hb_w8.size
        have jf0_w8 := (hb_w8.cell jfL_wc2).trans jf0_wc2
        have jf1_w8 := (hb_w8.cell jfL_wc2).trans jf1_wc2
        have jf2_w8 := (hb_w8.cell jfL_wc2).trans jf2_wc2
        have jf3_w8 := (hb_w8.cell jfL_wc2).trans jf3_wc2
        have jfF_w8 : ∀ o, w8.frozen? ⟨jfB, o, none⟩ = false := fun o => (hb_w8.frozen jfL_wc2).trans (jfF_wc2 o)
        have jfL_w8 : jfB < w8.heap.size := Nat.lt_of_lt_of_le jfL_wc2 hb_w8.size
        have oS_w8 := hidP (OwnG.later oS_wc2.out hb_w8)
        have oT_w8 := hidP (OwnG.later oT_wc2.out hb_w8)
        have oX_w8 := hidP (OwnG.later oX_wc2.out hb_w8)
        have oY_w8 := hidP (OwnG.later oY_wc2.out hb_w8)
        have oI_w8 := hidP (OwnG.later oI_wc2.out hb_w8)
        have oJ_w8 := hidP (OwnG.later oJ_wc2.out hb_w8)
        have acc_w8 := hidP (acc_wc2.out.trans (hb_w8.mono acc_wc2.out.size))
        have sz_w8 : Hid (wc2.heap.size ≤ w8.heap.size) := hidP hb_w8.size
        clear hb_w8 lp0_wc2 lp1_wc2 lpF_wc2 lpL_wc2 lq0_wc2 lq1_wc2 lq2_wc2 lq3_wc2 lqF_wc2 lqL_wc2 sp0_wc2 sp1_wc2 spF_wc2 spL_wc2 sf0_wc2 sf1_wc2 sf2_wc2 sf3_wc2 sfF_wc2 sfL_wc2 xa0_wc2 xa1_wc2 xaF_wc2 xaL_wc2 im0_wc2 im1_wc2 imF_wc2 imL_wc2 jf0_wc2 jf1_wc2 jf2_wc2 jf3_wc2 jfF_wc2 jfL_wc2 oS_wc2 oT_wc2 oX_wc2 oY_wc2 oI_wc2 oJ_wc2 acc_wc2
        go_wp2_with fail
        refine (HEp.out _).mono ?_
        rintro e w8q ⟨rfl, hb_w8q⟩
        have lp0_w8q := (hb_w8q.cell lpL_w8).trans lp0_w8
        have lp1_w8q := (hb_w8q.cell lpL_w8).trans lp1_w8
        have lpF_w8q : ∀ o, w8q.frozen? ⟨w.heap.size, o, none⟩ = false := fun o => (hb_w8q.frozen lpL_w8).trans (lpF_w8 o)
        have lpL_w8q : w.heap.size < w8q.heap.size := Nat.lt_of_lt_of_le lpL_w8 hb_w8q.size
        have lq0_w8q := (hb_w8q.cell lqL_w8).trans lq0_w8
        have lq1_w8q := (hb_w8q.cell lqL_w8).trans lq1_w8
        have lq2_w8q := (hb_w8q.cell lqL_w8).trans lq2_w8
        have lq3_w8q := (hb_w8q.cell lqL_w8).trans lq3_w8
        have lqF_w8q : ∀ o, w8q.frozen? ⟨w.heap.size + 1, o, none⟩ = false := fun o => (hb_w8q.frozen lqL_w8).trans (lqF_w8 o)
        have lqL_w8q : w.heap.size + 1 < w8q.heap.size := Nat.lt_of_lt_of_le lqL_w8 hb_w8q.size
        have sp0_w8q := (hb_w8q.cell spL_w8).trans sp0_w8
        have sp1_w8q := (hb_w8q.cell spL_w8).trans sp1_w8
        have spF_w8q : ∀ o, w8q.frozen? ⟨spB, o, none⟩ = false := fun o => (hb_w8q.frozen spL_w8).trans (spF_w8 o)
        have spL_w8q : spB < w8q.heap.size := Nat.lt_of_lt_of_le spL_w8 hb_w8q.size
        have sf0_w8q := (hb_w8q.cell sfL_w8).trans sf0_w8
        have sf1_w8q := (hb_w8q.cell sfL_w8).trans sf1_w8
        have sf2_w8q := (hb_w8q.cell sfL_w8).trans sf2_w8
        have sf3_w8q := (hb_w8q.cell sfL_w8).trans sf3_w8
        have sfF_w8q : ∀ o, w8q.frozen? ⟨sfB, o, none⟩ = false := fun o => (hb_w8q.frozen sfL_w8).trans (sfF_w8 o)
        have sfL_w8q : sfB < w8q.heap.size := Nat.lt_of_lt_of_le sfL_w8 hb_w8q.size
        have xa0_w8q := (hb_w8q.cell xaL_w8).trans xa0_w8
        have xa1_w8q := (hb_w8q.cell xaL_w8).trans xa1_w8
        have xaF_w8q : ∀ o, w8q.frozen? ⟨w5.heap.size, o, none⟩ = false := fun o => (hb_w8q.frozen xaL_w8).trans (xaF_w8 o)
        have xaL_w8q : w5.heap.size < w8q.heap.size := Nat.lt_of_lt_of_le xaL_w8 hb_w8q.size
        have im0_w8q := (hb_w8q.cell imL_w8).trans im0_w8
        have im1_w8q := (hb_w8q.cell imL_w8).trans im1_w8
        have imF_w8q : ∀ o, w8q.frozen? ⟨imB, o, none⟩ = false := fun o => (hb_w8q.frozen imL_w8).trans (imF_w8 o)
        have imL_w8q : imB < w8q.heap.size := Nat.lt_of_lt_of_le imL_w8 hb_w8q.size
        have jf0_w8q := (hb_w8q.cell jfL_w8).trans jf0_w8
        have jf1_w8q := (hb_w8q.cell jfL_w8).trans jf1_w8
        have jf2_w8q := (hb_w8q.cell jfL_w8).trans jf2_w8
        have jf3_w8q := (hb_w8q.cell jfL_w8).trans jf3_w8
        have jfF_w8q : ∀ o, w8q.frozen? ⟨jfB, o, none⟩ = false := fun o => (hb_w8q.frozen jfL_w8).trans (jfF_w8 o)
        have jfL_w8q : jfB < w8q.heap.size := Nat.lt_of_lt_of_le jfL_w8 hb_w8q.size
        have oS_w8q := hidP (OwnG.later oS_w8.out hb_w8q)
        have oT_w8q := hidP (OwnG.later oT_w8.out hb_w8q)
        have oX_w8q := hidP (OwnG.later oX_w8.out hb_w8q)
        have oY_w8q := hidP (OwnG.later oY_w8.out hb_w8q)
        have oI_w8q := hidP (OwnG.later oI_w8.out hb_w8q)
        have oJ_w8q := hidP (OwnG.later oJ_w8.out hb_w8q)
        have acc_w8q := hidP (acc_w8.out.trans (hb_w8q.mono acc_w8.out.size))
        have sz_w8q : Hid (w8.heap.size ≤ w8q.heap.size) := hidP hb_w8q.size
        clear hb_w8q lp0_w8 lp1_w8 lpF_w8 lpL_w8 lq0_w8 lq1_w8 lq2_w8 lq3_w8 lqF_w8 lqL_w8 sp0_w8 sp1_w8 spF_w8 spL_w8 sf0_w8 sf1_w8 sf2_w8 sf3_w8 sfF_w8 sfL_w8 xa0_w8 xa1_w8 xaF_w8 xaL_w8 im0_w8 im1_w8 imF_w8 imL_w8 jf0_w8 jf1_w8 jf2_w8 jf3_w8 jfF_w8 jfL_w8 oS_w8 oT_w8 oX_w8 oY_w8 oI_w8 oJ_w8 acc_w8
        have HOR2 := hidP (And.intro HOR1.out (And.intro as_W6.out (And.intro sz_W6.out (And.intro sz_wc2.out (And.intro HP2.out (And.intro sz_w8.out sz_w8q.out))))))
        clear HOR1 sz_W6 sz_wc2 sz_w8 sz_w8q
        go_wp2_with fail
        have HSx : Hid (∀ x, Below w8q.heap.size w8q x → (x.cell? ⟨w.heap.size, 0, none⟩ = some (.slice ap np cp) ∧ x.cell? ⟨w.heap.size, 1, none⟩ = some (.slice ab nb cb) ∧ x.cell? ⟨w5.heap.size, 0, none⟩ = some (.slice (some ⟨g2, 0, none⟩) np np) ∧ x.cell? ⟨w5.heap.size, 1, none⟩ = some (.slice (some ⟨h2, 0, none⟩) nb nb) ∧ Below w8q.heap.size w8q x)) := hidP fun x h =>
          ⟨(h.cell lpL_w8q).trans lp0_w8q, (h.cell lpL_w8q).trans lp1_w8q, (h.cell xaL_w8q).trans xa0_w8q, (h.cell xaL_w8q).trans xa1_w8q, h⟩
        refine wp_region_held_drew (S := (fun x => x.cell? ⟨w.heap.size, 0, none⟩ = some (.slice ap np cp) ∧ x.cell? ⟨w.heap.size, 1, none⟩ = some (.slice ab nb cb) ∧ x.cell? ⟨w5.heap.size, 0, none⟩ = some (.slice (some ⟨g2, 0, none⟩) np np) ∧ x.cell? ⟨w5.heap.size, 1, none⟩ = some (.slice (some ⟨h2, 0, none⟩) nb nb) ∧ Below w8q.heap.size w8q x)) (by kernel_rfl) ?_ (fun hHeld => ?_)
        · try dsimp only
          exact HSx.out _ ((Below.refl _ _).drew)
        refine tk 0 65 rfl ?_
        simp only [pa]
        refine tk 1 66 rfl ?_
        simp only [pa]
        refine wpAnyH_ready (rs := [2]) (by kernel_rfl) (by simp) ?_
        refine AllReadyH.cons rfl (fun K hK => ?_) AllReadyH.nil
        go_simp
        go_wp2_with (first | (go_at_call 21; refine (HTo.out _ (acc_w8q.out.trans ((hHeld.2.2.2.2).mono acc_w8q.out.size))).mono ?_; rintro e w30 ⟨g3, h3, rfl, og3, oh3, gh3, hb30⟩; have b30 := (hHeld.2.2.2.2).trans (hb30.mono (hHeld.2.2.2.2).size)))
        refine hK.out _ _ ?_ (fun hHeld => ?_)
        · try dsimp only
          exact HSx.out _ b30
        clear hK K
        refine wpAnyH_ready (rs := [3]) (by kernel_rfl) (by simp) ?_
        refine AllReadyH.cons rfl (fun K hK => ?_) AllReadyH.nil
        go_simp
        go_wp2_with (first | (go_at_call 23; refine (HEq.out _ g2 h2 g3 h3 (RowG.later oX_w8q.out.row (hHeld.2.2.2.2)) og3.row (RowG.later oY_w8q.out.row (hHeld.2.2.2.2)) oh3.row).mono ?_; rintro e w31 ⟨rfl, hb31⟩; have b31 := (hHeld.2.2.2.2).trans (hb31.mono (hHeld.2.2.2.2).size)))
        refine hK.out _ _ ?_ (fun hHeld => ?_)
        · try dsimp only
          exact HSx.out _ b31
        clear hK K
        refine tk 4 69 rfl ?_
        simp only [pa]
        have HE := hidP (hHeld.2.2.2.2)
        refine wpAnyH_done (by kernel_rfl) ?_ _
        clear hHeld
        have hb31' := HE.out
        clear og3 oh3 gh3 hb30 b30 b31 hb31 HSx HE
        have lp0_w31 := (hb31'.cell lpL_w8q).trans lp0_w8q
        have lp1_w31 := (hb31'.cell lpL_w8q).trans lp1_w8q
        have lpF_w31 : ∀ o, w31.frozen? ⟨w.heap.size, o, none⟩ = false := fun o => (hb31'.frozen lpL_w8q).trans (lpF_w8q o)
        have lpL_w31 : w.heap.size < w31.heap.size := Nat.lt_of_lt_of_le lpL_w8q hb31'.size
        have lq0_w31 := (hb31'.cell lqL_w8q).trans lq0_w8q
        have lq1_w31 := (hb31'.cell lqL_w8q).trans lq1_w8q
        have lq2_w31 := (hb31'.cell lqL_w8q).trans lq2_w8q
        have lq3_w31 := (hb31'.cell lqL_w8q).trans lq3_w8q
        have lqF_w31 : ∀ o, w31.frozen? ⟨w.heap.size + 1, o, none⟩ = false := fun o => (hb31'.frozen lqL_w8q).trans (lqF_w8q o)
        have lqL_w31 : w.heap.size + 1 < w31.heap.size := Nat.lt_of_lt_of_le lqL_w8q hb31'.size
        have sp0_w31 := (hb31'.cell spL_w8q).trans sp0_w8q
        have sp1_w31 := (hb31'.cell spL_w8q).trans sp1_w8q
        have spF_w31 : ∀ o, w31.frozen? ⟨spB, o, none⟩ = false := fun o => (hb31'.frozen spL_w8q).trans (spF_w8q o)
        have spL_w31 : spB < w31.heap.size := Nat.lt_of_lt_of_le spL_w8q hb31'.size
        have sf0_w31 := (hb31'.cell sfL_w8q).trans sf0_w8q
        have sf1_w31 := (hb31'.cell sfL_w8q).trans sf1_w8q
        have sf2_w31 := (hb31'.cell sfL_w8q).trans sf2_w8q
        have sf3_w31 := (hb31'.cell sfL_w8q).trans sf3_w8q
        have sfF_w31 : ∀ o, w31.frozen? ⟨sfB, o, none⟩ = false := fun o => (hb31'.frozen sfL_w8q).trans (sfF_w8q o)
        have sfL_w31 : sfB < w31.heap.size := Nat.lt_of_lt_of_le sfL_w8q hb31'.size
        have xa0_w31 := (hb31'.cell xaL_w8q).trans xa0_w8q
        have xa1_w31 := (hb31'.cell xaL_w8q).trans xa1_w8q
        have xaF_w31 : ∀ o, w31.frozen? ⟨w5.heap.size, o, none⟩ = false := fun o => (hb31'.frozen xaL_w8q).trans (xaF_w8q o)
        have xaL_w31 : w5.heap.size < w31.heap.size := Nat.lt_of_lt_of_le xaL_w8q hb31'.size
        have im0_w31 := (hb31'.cell imL_w8q).trans im0_w8q
        have im1_w31 := (hb31'.cell imL_w8q).trans im1_w8q
        have imF_w31 : ∀ o, w31.frozen? ⟨imB, o, none⟩ = false := fun o => (hb31'.frozen imL_w8q).trans (imF_w8q o)
        have imL_w31 : imB < w31.heap.size := Nat.lt_of_lt_of_le imL_w8q hb31'.size
        have jf0_w31 := (hb31'.cell jfL_w8q).trans jf0_w8q
        have jf1_w31 := (hb31'.cell jfL_w8q).trans jf1_w8q
        have jf2_w31 := (hb31'.cell jfL_w8q).trans jf2_w8q
        have jf3_w31 := (hb31'.cell jfL_w8q).trans jf3_w8q
        have jfF_w31 : ∀ o, w31.frozen? ⟨jfB, o, none⟩ = false := fun o => (hb31'.frozen jfL_w8q).trans (jfF_w8q o)
        have jfL_w31 : jfB < w31.heap.size := Nat.lt_of_lt_of_le jfL_w8q hb31'.size
        have oS_w31 := hidP (OwnG.later oS_w8q.out hb31')
        have oT_w31 := hidP (OwnG.later oT_w8q.out hb31')
        have oX_w31 := hidP (OwnG.later oX_w8q.out hb31')
        have oY_w31 := hidP (OwnG.later oY_w8q.out hb31')
        have oI_w31 := hidP (OwnG.later oI_w8q.out hb31')
        have oJ_w31 := hidP (OwnG.later oJ_w8q.out hb31')
        have acc_w31 := hidP (acc_w8q.out.trans (hb31'.mono acc_w8q.out.size))
        have sz_w31 : Hid (w8q.heap.size ≤ w31.heap.size) := hidP hb31'.size
        clear hb31' lp0_w8q lp1_w8q lpF_w8q lpL_w8q lq0_w8q lq1_w8q lq2_w8q lq3_w8q lqF_w8q lqL_w8q sp0_w8q sp1_w8q spF_w8q spL_w8q sf0_w8q sf1_w8q sf2_w8q sf3_w8q sfF_w8q sfL_w8q xa0_w8q xa1_w8q xaF_w8q xaL_w8q im0_w8q im1_w8q imF_w8q imL_w8q jf0_w8q jf1_w8q jf2_w8q jf3_w8q jfF_w8q jfL_w8q oS_w8q oT_w8q oX_w8q oY_w8q oI_w8q oJ_w8q acc_w8q
        go_wp2_with fail
        refine (HMk.out w31 g2 h2 _ oX_w31.out oY_w31.out (fun j h1 h2' => by have := GH.out; simp [Value.ownBlock] at h1 h2'; omega)).mono ?_
        rintro e w13 ⟨rfl, om1, om2, wm, hgm, hgn⟩
        clear om1 om2
        clear oX_w31
        clear oY_w31
        clear xa0_w31 xa1_w31 xaF_w31 xaL_w31
        have nelp : ∀ k, (Value.slice (some ⟨g2, 0, none⟩) np np).ownBlock = some k → k ≠ w.heap.size := fun k hk => by have h5 := lhX.out k hk; have := HOR2.out; have := sz_w31.out; omega
        have lp0_wm := cell_grownC hgm lp0_w31 nelp
        have lp1_wm := cell_grownC hgm lp1_w31 nelp
        have lpF_wm : ∀ o, wm.frozen? ⟨w.heap.size, o, none⟩ = false := fun o => frz_grownC hgm lpL_w31 (lpF_w31 o) nelp
        have lpL_wm : w.heap.size < wm.heap.size := Nat.lt_of_lt_of_le lpL_w31 hgm.size
        have nelq : ∀ k, (Value.slice (some ⟨g2, 0, none⟩) np np).ownBlock = some k → k ≠ w.heap.size + 1 := fun k hk => by have h5 := lhX.out k hk; have := HOR2.out; have := sz_w31.out; omega
        have lq0_wm := cell_grownC hgm lq0_w31 nelq
        have lq1_wm := cell_grownC hgm lq1_w31 nelq
        have lq2_wm := cell_grownC hgm lq2_w31 nelq
        have lq3_wm := cell_grownC hgm lq3_w31 nelq
        have lqF_wm : ∀ o, wm.frozen? ⟨w.heap.size + 1, o, none⟩ = false := fun o => frz_grownC hgm lqL_w31 (lqF_w31 o) nelq
        have lqL_wm : w.heap.size + 1 < wm.heap.size := Nat.lt_of_lt_of_le lqL_w31 hgm.size
        have nesp : ∀ k, (Value.slice (some ⟨g2, 0, none⟩) np np).ownBlock = some k → k ≠ spB := fun k hk => by have h5 := lhX.out k hk; have := HOR2.out; have := sz_w31.out; omega
        have sp0_wm := cell_grownC hgm sp0_w31 nesp
        have sp1_wm := cell_grownC hgm sp1_w31 nesp
        have spF_wm : ∀ o, wm.frozen? ⟨spB, o, none⟩ = false := fun o => frz_grownC hgm spL_w31 (spF_w31 o) nesp
        have spL_wm : spB < wm.heap.size := Nat.lt_of_lt_of_le spL_w31 hgm.size
        have nesf : ∀ k, (Value.slice (some ⟨g2, 0, none⟩) np np).ownBlock = some k → k ≠ sfB := fun k hk => by have h5 := lhX.out k hk; have := HOR2.out; have := sz_w31.out; omega
        have sf0_wm := cell_grownC hgm sf0_w31 nesf
        have sf1_wm := cell_grownC hgm sf1_w31 nesf
        have sf2_wm := cell_grownC hgm sf2_w31 nesf
        have sf3_wm := cell_grownC hgm sf3_w31 nesf
        have sfF_wm : ∀ o, wm.frozen? ⟨sfB, o, none⟩ = false := fun o => frz_grownC hgm sfL_w31 (sfF_w31 o) nesf
        have sfL_wm : sfB < wm.heap.size := Nat.lt_of_lt_of_le sfL_w31 hgm.size
        have neim : ∀ k, (Value.slice (some ⟨g2, 0, none⟩) np np).ownBlock = some k → k ≠ imB := fun k hk => by have h5 := lhX.out k hk; have := HOR2.out; have := sz_w31.out; omega
        have im0_wm := cell_grownC hgm im0_w31 neim
        have im1_wm := cell_grownC hgm im1_w31 neim
        have imF_wm : ∀ o, wm.frozen? ⟨imB, o, none⟩ = false := fun o => frz_grownC hgm imL_w31 (imF_w31 o) neim
        have imL_wm : imB < wm.heap.size := Nat.lt_of_lt_of_le imL_w31 hgm.size
        have nejf : ∀ k, (Value.slice (some ⟨g2, 0, none⟩) np np).ownBlock = some k → k ≠ jfB := fun k hk => by have h5 := lhX.out k hk; have := HOR2.out; have := sz_w31.out; omega
        have jf0_wm := cell_grownC hgm jf0_w31 nejf
        have jf1_wm := cell_grownC hgm jf1_w31 nejf
        have jf2_wm := cell_grownC hgm jf2_w31 nejf
        have jf3_wm := cell_grownC hgm jf3_w31 nejf
        have jfF_wm : ∀ o, wm.frozen? ⟨jfB, o, none⟩ = false := fun o => frz_grownC hgm jfL_w31 (jfF_w31 o) nejf
        have jfL_wm : jfB < wm.heap.size := Nat.lt_of_lt_of_le jfL_w31 hgm.size
        have oS_wm := hidP (OwnG.grown oS_w31.out hgm (fun j hj he => by have h5 := lhS.out j hj; have h6 := lhX.out j he; have := HOR2.out; have := sz_w31.out; omega))
        have oT_wm := hidP (OwnG.grown oT_w31.out hgm (fun j hj he => by have h5 := lhT.out j hj; have h6 := lhX.out j he; have := HOR2.out; have := sz_w31.out; omega))
        have oI_wm := hidP (OwnG.grown oI_w31.out hgm (fun j hj he => by have h5 := lhI.out j hj; have h6 := lhX.out j he; have := HOR2.out; have := sz_w31.out; omega))
        have oJ_wm := hidP (OwnG.grown oJ_w31.out hgm (fun j hj he => by have h5 := lhJ.out j hj; have h6 := lhX.out j he; have := HOR2.out; have := sz_w31.out; omega))
        have acc_wm := hidP (Below.grown acc_w31.out hgm acc_w31.out.size (fun k hk => by have h5 := lhX.out k hk; have := HOR2.out; have := sz_w31.out; omega))
        have sz_wm : Hid (w31.heap.size ≤ wm.heap.size) := hidP hgm.size
        clear hgm lp0_w31 lp1_w31 lpF_w31 lpL_w31 nelp lq0_w31 lq1_w31 lq2_w31 lq3_w31 lqF_w31 lqL_w31 nelq sp0_w31 sp1_w31 spF_w31 spL_w31 nesp sf0_w31 sf1_w31 sf2_w31 sf3_w31 sfF_w31 sfL_w31 nesf im0_w31 im1_w31 imF_w31 imL_w31 neim jf0_w31 jf1_w31 jf2_w31 jf3_w31 jfF_w31 jfL_w31 nejf oS_w31 oT_w31 oI_w31 oJ_w31 acc_w31
        have nelp : ∀ k, (Value.slice (some ⟨h2, 0, none⟩) nb nb).ownBlock = some k → k ≠ w.heap.size := fun k hk => by have h5 := lhY.out k hk; have := HOR2.out; have := sz_w31.out; have := sz_wm.out; omega
        have lp0_w13 := cell_grownC hgn lp0_wm nelp
        have lp1_w13 := cell_grownC hgn lp1_wm nelp
        have lpF_w13 : ∀ o, w13.frozen? ⟨w.heap.size, o, none⟩ = false := fun o => frz_grownC hgn lpL_wm (lpF_wm o) nelp
        have lpL_w13 : w.heap.size < w13.heap.size := Nat.lt_of_lt_of_le lpL_wm hgn.size
        have nelq : ∀ k, (Value.slice (some ⟨h2, 0, none⟩) nb nb).ownBlock = some k → k ≠ w.heap.size + 1 := fun k hk => by have h5 := lhY.out k hk; have := HOR2.out; have := sz_w31.out; have := sz_wm.out; omega
        have lq0_w13 := cell_grownC hgn lq0_wm nelq
        have lq1_w13 := cell_grownC hgn lq1_wm nelq
        have lq2_w13 := cell_grownC hgn lq2_wm nelq
        have lq3_w13 := cell_grownC hgn lq3_wm nelq
        have lqF_w13 : ∀ o, w13.frozen? ⟨w.heap.size + 1, o, none⟩ = false := fun o => frz_grownC hgn lqL_wm (lqF_wm o) nelq
        have lqL_w13 : w.heap.size + 1 < w13.heap.size := Nat.lt_of_lt_of_le lqL_wm hgn.size
        have nesp : ∀ k, (Value.slice (some ⟨h2, 0, none⟩) nb nb).ownBlock = some k → k ≠ spB := fun k hk => by have h5 := lhY.out k hk; have := HOR2.out; have := sz_w31.out; have := sz_wm.out; omega
        have sp0_w13 := cell_grownC hgn sp0_wm nesp
        have sp1_w13 := cell_grownC hgn sp1_wm nesp
        have spF_w13 : ∀ o, w13.frozen? ⟨spB, o, none⟩ = false := fun o => frz_grownC hgn spL_wm (spF_wm o) nesp
        have spL_w13 : spB < w13.heap.size := Nat.lt_of_lt_of_le spL_wm hgn.size
        have nesf : ∀ k, (Value.slice (some ⟨h2, 0, none⟩) nb nb).ownBlock = some k → k ≠ sfB := fun k hk => by have h5 := lhY.out k hk; have := HOR2.out; have := sz_w31.out; have := sz_wm.out; omega
        have sf0_w13 := cell_grownC hgn sf0_wm nesf
        have sf1_w13 := cell_grownC hgn sf1_wm nesf
        have sf2_w13 := cell_grownC hgn sf2_wm nesf
        have sf3_w13 := cell_grownC hgn sf3_wm nesf
        have sfF_w13 : ∀ o, w13.frozen? ⟨sfB, o, none⟩ = false := fun o => frz_grownC hgn sfL_wm (sfF_wm o) nesf
        have sfL_w13 : sfB < w13.heap.size := Nat.lt_of_lt_of_le sfL_wm hgn.size
        have neim : ∀ k, (Value.slice (some ⟨h2, 0, none⟩) nb nb).ownBlock = some k → k ≠ imB := fun k hk => by have h5 := lhY.out k hk; have := HOR2.out; have := sz_w31.out; have := sz_wm.out; omega
        have im0_w13 := cell_grownC hgn im0_wm neim
        have im1_w13 := cell_grownC hgn im1_wm neim
        have imF_w13 : ∀ o, w13.frozen? ⟨imB, o, none⟩ = false := fun o => frz_grownC hgn imL_wm (imF_wm o) neim
        have imL_w13 : imB < w13.heap.size := Nat.lt_of_lt_of_le imL_wm hgn.size
        have nejf : ∀ k, (Value.slice (some ⟨h2, 0, none⟩) nb nb).ownBlock = some k → k ≠ jfB := fun k hk => by have h5 := lhY.out k hk; have := HOR2.out; have := sz_w31.out; have := sz_wm.out; omega
        have jf0_w13 := cell_grownC hgn jf0_wm nejf
        have jf1_w13 := cell_grownC hgn jf1_wm nejf
        have jf2_w13 := cell_grownC hgn jf2_wm nejf
        have jf3_w13 := cell_grownC hgn jf3_wm nejf
        have jfF_w13 : ∀ o, w13.frozen? ⟨jfB, o, none⟩ = false := fun o => frz_grownC hgn jfL_wm (jfF_wm o) nejf
        have jfL_w13 : jfB < w13.heap.size := Nat.lt_of_lt_of_le jfL_wm hgn.size
        have oS_w13 := hidP (OwnG.grown oS_wm.out hgn (fun j hj he => by have h5 := lhS.out j hj; have h6 := lhY.out j he; have := HOR2.out; have := sz_w31.out; have := sz_wm.out; omega))
        have oT_w13 := hidP (OwnG.grown oT_wm.out hgn (fun j hj he => by have h5 := lhT.out j hj; have h6 := lhY.out j he; have := HOR2.out; have := sz_w31.out; have := sz_wm.out; omega))
        have oI_w13 := hidP (OwnG.grown oI_wm.out hgn (fun j hj he => by have h5 := lhI.out j hj; have h6 := lhY.out j he; have := HOR2.out; have := sz_w31.out; have := sz_wm.out; omega))
        have oJ_w13 := hidP (OwnG.grown oJ_wm.out hgn (fun j hj he => by have h5 := lhJ.out j hj; have h6 := lhY.out j he; have := HOR2.out; have := sz_w31.out; have := sz_wm.out; omega))
        have acc_w13 := hidP (Below.grown acc_wm.out hgn acc_wm.out.size (fun k hk => by have h5 := lhY.out k hk; have := HOR2.out; have := sz_w31.out; have := sz_wm.out; omega))
        have sz_w13 : Hid (wm.heap.size ≤ w13.heap.size) := hidP hgn.size
        clear hgn lp0_wm lp1_wm lpF_wm lpL_wm nelp lq0_wm lq1_wm lq2_wm lq3_wm lqF_wm lqL_wm nelq sp0_wm sp1_wm spF_wm spL_wm nesp sf0_wm sf1_wm sf2_wm sf3_wm sfF_wm sfL_wm nesf im0_wm im1_wm imF_wm imL_wm neim jf0_wm jf1_wm jf2_wm jf3_wm jfF_wm jfL_wm nejf oS_wm oT_wm oI_wm oJ_wm acc_wm
        have HOR3 := hidP (And.intro HOR2.out (And.intro sz_w31.out (And.intro sz_wm.out sz_w13.out)))
        clear HOR2 sz_w31 sz_wm sz_w13
        go_wp2_with fail
        refine (HEr.out _ a2 c2 b2 d2 a1 c1 b1 d1 oI_w13.out.row oS_w13.out.row oJ_w13.out.row oT_w13.out.row).mono ?_
        rintro e w14 ⟨rfl, hb_w14⟩
        have lp0_w14 := (hb_w14.cell lpL_w13).trans lp0_w13
        have lp1_w14 := (hb_w14.cell lpL_w13).trans lp1_w13
        have lpF_w14 : ∀ o, w14.frozen? ⟨w.heap.size, o, none⟩ = false := fun o => (hb_w14.frozen lpL_w13).trans (lpF_w13 o)
        have lpL_w14 : w.heap.size < w14.heap.size := Nat.lt_of_lt_of_le lpL_w13 hb_w14.size
        have lq0_w14 := (hb_w14.cell lqL_w13).trans lq0_w13
        have lq1_w14 := (hb_w14.cell lqL_w13).trans lq1_w13
        have lq2_w14 := (hb_w14.cell lqL_w13).trans lq2_w13
        have lq3_w14 := (hb_w14.cell lqL_w13).trans lq3_w13
        have lqF_w14 : ∀ o, w14.frozen? ⟨w.heap.size + 1, o, none⟩ = false := fun o => (hb_w14.frozen lqL_w13).trans (lqF_w13 o)
        have lqL_w14 : w.heap.size + 1 < w14.heap.size := Nat.lt_of_lt_of_le lqL_w13 hb_w14.size
        have sp0_w14 := (hb_w14.cell spL_w13).trans sp0_w13
        have sp1_w14 := (hb_w14.cell spL_w13).trans sp1_w13
        have spF_w14 : ∀ o, w14.frozen? ⟨spB, o, none⟩ = false := fun o => (hb_w14.frozen spL_w13).trans (spF_w13 o)
        have spL_w14 : spB < w14.heap.size := Nat.lt_of_lt_of_le spL_w13 hb_w14.size
        have sf0_w14 := (hb_w14.cell sfL_w13).trans sf0_w13
        have sf1_w14 := (hb_w14.cell sfL_w13).trans sf1_w13
        have sf2_w14 := (hb_w14.cell sfL_w13).trans sf2_w13
        have sf3_w14 := (hb_w14.cell sfL_w13).trans sf3_w13
        have sfF_w14 : ∀ o, w14.frozen? ⟨sfB, o, none⟩ = false := fun o => (hb_w14.frozen sfL_w13).trans (sfF_w13 o)
        have sfL_w14 : sfB < w14.heap.size := Nat.lt_of_lt_of_le sfL_w13 hb_w14.size
        have im0_w14 := (hb_w14.cell imL_w13).trans im0_w13
        have im1_w14 := (hb_w14.cell imL_w13).trans im1_w13
        have imF_w14 : ∀ o, w14.frozen? ⟨imB, o, none⟩ = false := fun o => (hb_w14.frozen imL_w13).trans (imF_w13 o)
        have imL_w14 : imB < w14.heap.size := Nat.lt_of_lt_of_le imL_w13 hb_w14.size
        have jf0_w14 := (hb_w14.cell jfL_w13).trans jf0_w13
        have jf1_w14 := (hb_w14.cell jfL_w13).trans jf1_w13
        have jf2_w14 := (hb_w14.cell jfL_w13).trans jf2_w13
        have jf3_w14 := (hb_w14.cell jfL_w13).trans jf3_w13
        have jfF_w14 : ∀ o, w14.frozen? ⟨jfB, o, none⟩ = false := fun o => (hb_w14.frozen jfL_w13).trans (jfF_w13 o)
        have jfL_w14 : jfB < w14.heap.size := Nat.lt_of_lt_of_le jfL_w13 hb_w14.size
        have oS_w14 := hidP (OwnG.later oS_w13.out hb_w14)
        have oT_w14 := hidP (OwnG.later oT_w13.out hb_w14)
        have oI_w14 := hidP (OwnG.later oI_w13.out hb_w14)
        have oJ_w14 := hidP (OwnG.later oJ_w13.out hb_w14)
        have acc_w14 := hidP (acc_w13.out.trans (hb_w14.mono acc_w13.out.size))
        have sz_w14 : Hid (w13.heap.size ≤ w14.heap.size) := hidP hb_w14.size
        clear hb_w14 lp0_w13 lp1_w13 lpF_w13 lpL_w13 lq0_w13 lq1_w13 lq2_w13 lq3_w13 lqF_w13 lqL_w13 sp0_w13 sp1_w13 spF_w13 spL_w13 sf0_w13 sf1_w13 sf2_w13 sf3_w13 sfF_w13 sfL_w13 im0_w13 im1_w13 imF_w13 imL_w13 jf0_w13 jf1_w13 jf2_w13 jf3_w13 jfF_w13 jfL_w13 oS_w13 oT_w13 oI_w13 oJ_w13 acc_w13
        go_wp2_with fail
        refine (HEp.out _).mono ?_
        rintro e w14q ⟨rfl, hb_w14q⟩
        have lp0_w14q := (hb_w14q.cell lpL_w14).trans lp0_w14
        have lp1_w14q := (hb_w14q.cell lpL_w14).trans lp1_w14
        have lpF_w14q : ∀ o, w14q.frozen? ⟨w.heap.size, o, none⟩ = false := fun o => (hb_w14q.frozen lpL_w14).trans (lpF_w14 o)
        have lpL_w14q : w.heap.size < w14q.heap.size := Nat.lt_of_lt_of_le lpL_w14 hb_w14q.size
        have lq0_w14q := (hb_w14q.cell lqL_w14).trans lq0_w14
        have lq1_w14q := (hb_w14q.cell lqL_w14).trans lq1_w14
        have lq2_w14q := (hb_w14q.cell lqL_w14).trans lq2_w14
        have lq3_w14q := (hb_w14q.cell lqL_w14).trans lq3_w14
        have lqF_w14q : ∀ o, w14q.frozen? ⟨w.heap.size + 1, o, none⟩ = false := fun o => (hb_w14q.frozen lqL_w14).trans (lqF_w14 o)
        have lqL_w14q : w.heap.size + 1 < w14q.heap.size := Nat.lt_of_lt_of_le lqL_w14 hb_w14q.size
        have sp0_w14q := (hb_w14q.cell spL_w14).trans sp0_w14
        have sp1_w14q := (hb_w14q.cell spL_w14).trans sp1_w14
        have spF_w14q : ∀ o, w14q.frozen? ⟨spB, o, none⟩ = false := fun o => (hb_w14q.frozen spL_w14).trans (spF_w14 o)
        have spL_w14q : spB < w14q.heap.size := Nat.lt_of_lt_of_le spL_w14 hb_w14q.size
        have sf0_w14q := (hb_w14q.cell sfL_w14).trans sf0_w14
        have sf1_w14q := (hb_w14q.cell sfL_w14).trans sf1_w14
        have sf2_w14q := (hb_w14q.cell sfL_w14).trans sf2_w14
        have sf3_w14q := (hb_w14q.cell sfL_w14).trans sf3_w14
        have sfF_w14q : ∀ o, w14q.frozen? ⟨sfB, o, none⟩ = false := fun o => (hb_w14q.frozen sfL_w14).trans (sfF_w14 o)
        have sfL_w14q : sfB < w14q.heap.size := Nat.lt_of_lt_of_le sfL_w14 hb_w14q.size
        have im0_w14q := (hb_w14q.cell imL_w14).trans im0_w14
        have im1_w14q := (hb_w14q.cell imL_w14).trans im1_w14
        have imF_w14q : ∀ o, w14q.frozen? ⟨imB, o, none⟩ = false := fun o => (hb_w14q.frozen imL_w14).trans (imF_w14 o)
        have imL_w14q : imB < w14q.heap.size := Nat.lt_of_lt_of_le imL_w14 hb_w14q.size
        have jf0_w14q := (hb_w14q.cell jfL_w14).trans jf0_w14
        have jf1_w14q := (hb_w14q.cell jfL_w14).trans jf1_w14
        have jf2_w14q := (hb_w14q.cell jfL_w14).trans jf2_w14
        have jf3_w14q := (hb_w14q.cell jfL_w14).trans jf3_w14
        have jfF_w14q : ∀ o, w14q.frozen? ⟨jfB, o, none⟩ = false := fun o => (hb_w14q.frozen jfL_w14).trans (jfF_w14 o)
        have jfL_w14q : jfB < w14q.heap.size := Nat.lt_of_lt_of_le jfL_w14 hb_w14q.size
        have oS_w14q := hidP (OwnG.later oS_w14.out hb_w14q)
        have oT_w14q := hidP (OwnG.later oT_w14.out hb_w14q)
        have oI_w14q := hidP (OwnG.later oI_w14.out hb_w14q)
        have oJ_w14q := hidP (OwnG.later oJ_w14.out hb_w14q)
        have acc_w14q := hidP (acc_w14.out.trans (hb_w14q.mono acc_w14.out.size))
        have sz_w14q : Hid (w14.heap.size ≤ w14q.heap.size) := hidP hb_w14q.size
        clear hb_w14q lp0_w14 lp1_w14 lpF_w14 lpL_w14 lq0_w14 lq1_w14 lq2_w14 lq3_w14 lqF_w14 lqL_w14 sp0_w14 sp1_w14 spF_w14 spL_w14 sf0_w14 sf1_w14 sf2_w14 sf3_w14 sfF_w14 sfL_w14 im0_w14 im1_w14 imF_w14 imL_w14 jf0_w14 jf1_w14 jf2_w14 jf3_w14 jfF_w14 jfL_w14 oS_w14 oT_w14 oI_w14 oJ_w14 acc_w14
        go_wp2_with fail
        refine (HMr.out w14q a2 c2 b2 d2 _ oI_w14q.out oJ_w14q.out HNE2.out).mono ?_
        rintro e w15 ⟨rfl, om3, om4, wn, hgi, hgj⟩
        have OM := hidP (And.intro om3 om4)
        clear om3 om4
        clear oI_w14q
        clear oJ_w14q
        have nelp : ∀ k, (Value.slice a2 NP c2).ownBlock = some k → k ≠ w.heap.size := fun k hk => by have h5 := lhI.out k hk; have := HOR3.out; have := sz_w14.out; have := sz_w14q.out; omega
        have lp0_wn := cell_grownC hgi lp0_w14q nelp
        have lp1_wn := cell_grownC hgi lp1_w14q nelp
        have lpF_wn : ∀ o, wn.frozen? ⟨w.heap.size, o, none⟩ = false := fun o => frz_grownC hgi lpL_w14q (lpF_w14q o) nelp
        have lpL_wn : w.heap.size < wn.heap.size := Nat.lt_of_lt_of_le lpL_w14q hgi.size
        have nelq : ∀ k, (Value.slice a2 NP c2).ownBlock = some k → k ≠ w.heap.size + 1 := fun k hk => by have h5 := lhI.out k hk; have := HOR3.out; have := sz_w14.out; have := sz_w14q.out; omega
        have lq0_wn := cell_grownC hgi lq0_w14q nelq
        have lq1_wn := cell_grownC hgi lq1_w14q nelq
        have lq2_wn := cell_grownC hgi lq2_w14q nelq
        have lq3_wn := cell_grownC hgi lq3_w14q nelq
        have lqF_wn : ∀ o, wn.frozen? ⟨w.heap.size + 1, o, none⟩ = false := fun o => frz_grownC hgi lqL_w14q (lqF_w14q o) nelq
        have lqL_wn : w.heap.size + 1 < wn.heap.size := Nat.lt_of_lt_of_le lqL_w14q hgi.size
        have nesp : ∀ k, (Value.slice a2 NP c2).ownBlock = some k → k ≠ spB := fun k hk => by have h5 := lhI.out k hk; have := HOR3.out; have := sz_w14.out; have := sz_w14q.out; omega
        have sp0_wn := cell_grownC hgi sp0_w14q nesp
        have sp1_wn := cell_grownC hgi sp1_w14q nesp
        have spF_wn : ∀ o, wn.frozen? ⟨spB, o, none⟩ = false := fun o => frz_grownC hgi spL_w14q (spF_w14q o) nesp
        have spL_wn : spB < wn.heap.size := Nat.lt_of_lt_of_le spL_w14q hgi.size
        have nesf : ∀ k, (Value.slice a2 NP c2).ownBlock = some k → k ≠ sfB := fun k hk => by have h5 := lhI.out k hk; have := HOR3.out; have := sz_w14.out; have := sz_w14q.out; omega
        have sf0_wn := cell_grownC hgi sf0_w14q nesf
        have sf1_wn := cell_grownC hgi sf1_w14q nesf
        have sf2_wn := cell_grownC hgi sf2_w14q nesf
        have sf3_wn := cell_grownC hgi sf3_w14q nesf
        have sfF_wn : ∀ o, wn.frozen? ⟨sfB, o, none⟩ = false := fun o => frz_grownC hgi sfL_w14q (sfF_w14q o) nesf
        have sfL_wn : sfB < wn.heap.size := Nat.lt_of_lt_of_le sfL_w14q hgi.size
        have neim : ∀ k, (Value.slice a2 NP c2).ownBlock = some k → k ≠ imB := HM2.out.1.1
        have im0_wn := cell_grownC hgi im0_w14q neim
        have im1_wn := cell_grownC hgi im1_w14q neim
        have imF_wn : ∀ o, wn.frozen? ⟨imB, o, none⟩ = false := fun o => frz_grownC hgi imL_w14q (imF_w14q o) neim
        have imL_wn : imB < wn.heap.size := Nat.lt_of_lt_of_le imL_w14q hgi.size
        have nejf : ∀ k, (Value.slice a2 NP c2).ownBlock = some k → k ≠ jfB := HM2.out.2.1
        have jf0_wn := cell_grownC hgi jf0_w14q nejf
        have jf1_wn := cell_grownC hgi jf1_w14q nejf
        have jf2_wn := cell_grownC hgi jf2_w14q nejf
        have jf3_wn := cell_grownC hgi jf3_w14q nejf
        have jfF_wn : ∀ o, wn.frozen? ⟨jfB, o, none⟩ = false := fun o => frz_grownC hgi jfL_w14q (jfF_w14q o) nejf
        have jfL_wn : jfB < wn.heap.size := Nat.lt_of_lt_of_le jfL_w14q hgi.size
        have oS_wn := hidP (OwnG.grown oS_w14q.out hgi (fun j hj he => by have h5 := lhS.out j hj; have h6 := lhI.out j he; have := HOR3.out; have := sz_w14.out; have := sz_w14q.out; omega))
        have oT_wn := hidP (OwnG.grown oT_w14q.out hgi (fun j hj he => by have h5 := lhT.out j hj; have h6 := lhI.out j he; have := HOR3.out; have := sz_w14.out; have := sz_w14q.out; omega))
        have acc_wn := hidP (Below.grown acc_w14q.out hgi acc_w14q.out.size (fun k hk => by have h5 := lhI.out k hk; have := HOR3.out; have := sz_w14.out; have := sz_w14q.out; omega))
        have sz_wn : Hid (w14q.heap.size ≤ wn.heap.size) := hidP hgi.size
        clear hgi lp0_w14q lp1_w14q lpF_w14q lpL_w14q nelp lq0_w14q lq1_w14q lq2_w14q lq3_w14q lqF_w14q lqL_w14q nelq sp0_w14q sp1_w14q spF_w14q spL_w14q nesp sf0_w14q sf1_w14q sf2_w14q sf3_w14q sfF_w14q sfL_w14q nesf im0_w14q im1_w14q imF_w14q imL_w14q neim jf0_w14q jf1_w14q jf2_w14q jf3_w14q jfF_w14q jfL_w14q nejf oS_w14q oT_w14q acc_w14q
        have nelp : ∀ k, (Value.slice b2 NB d2).ownBlock = some k → k ≠ w.heap.size := fun k hk => by have h5 := lhJ.out k hk; have := HOR3.out; have := sz_w14.out; have := sz_w14q.out; have := sz_wn.out; omega
        have lp0_w15 := cell_grownC hgj lp0_wn nelp
        have lp1_w15 := cell_grownC hgj lp1_wn nelp
        have lpF_w15 : ∀ o, w15.frozen? ⟨w.heap.size, o, none⟩ = false := fun o => frz_grownC hgj lpL_wn (lpF_wn o) nelp
        have lpL_w15 : w.heap.size < w15.heap.size := Nat.lt_of_lt_of_le lpL_wn hgj.size
        have nelq : ∀ k, (Value.slice b2 NB d2).ownBlock = some k → k ≠ w.heap.size + 1 := fun k hk => by have h5 := lhJ.out k hk; have := HOR3.out; have := sz_w14.out; have := sz_w14q.out; have := sz_wn.out; omega
        have lq0_w15 := cell_grownC hgj lq0_wn nelq
        have lq1_w15 := cell_grownC hgj lq1_wn nelq
        have lq2_w15 := cell_grownC hgj lq2_wn nelq
        have lq3_w15 := cell_grownC hgj lq3_wn nelq
        have lqF_w15 : ∀ o, w15.frozen? ⟨w.heap.size + 1, o, none⟩ = false := fun o => frz_grownC hgj lqL_wn (lqF_wn o) nelq
        have lqL_w15 : w.heap.size + 1 < w15.heap.size := Nat.lt_of_lt_of_le lqL_wn hgj.size
        have nesp : ∀ k, (Value.slice b2 NB d2).ownBlock = some k → k ≠ spB := fun k hk => by have h5 := lhJ.out k hk; have := HOR3.out; have := sz_w14.out; have := sz_w14q.out; have := sz_wn.out; omega
        have sp0_w15 := cell_grownC hgj sp0_wn nesp
        have sp1_w15 := cell_grownC hgj sp1_wn nesp
        have spF_w15 : ∀ o, w15.frozen? ⟨spB, o, none⟩ = false := fun o => frz_grownC hgj spL_wn (spF_wn o) nesp
        have spL_w15 : spB < w15.heap.size := Nat.lt_of_lt_of_le spL_wn hgj.size
        have nesf : ∀ k, (Value.slice b2 NB d2).ownBlock = some k → k ≠ sfB := fun k hk => by have h5 := lhJ.out k hk; have := HOR3.out; have := sz_w14.out; have := sz_w14q.out; have := sz_wn.out; omega
        have sf0_w15 := cell_grownC hgj sf0_wn nesf
        have sf1_w15 := cell_grownC hgj sf1_wn nesf
        have sf2_w15 := cell_grownC hgj sf2_wn nesf
        have sf3_w15 := cell_grownC hgj sf3_wn nesf
        have sfF_w15 : ∀ o, w15.frozen? ⟨sfB, o, none⟩ = false := fun o => frz_grownC hgj sfL_wn (sfF_wn o) nesf
        have sfL_w15 : sfB < w15.heap.size := Nat.lt_of_lt_of_le sfL_wn hgj.size
        have neim : ∀ k, (Value.slice b2 NB d2).ownBlock = some k → k ≠ imB := HM2.out.1.2
        have im0_w15 := cell_grownC hgj im0_wn neim
        have im1_w15 := cell_grownC hgj im1_wn neim
        have imF_w15 : ∀ o, w15.frozen? ⟨imB, o, none⟩ = false := fun o => frz_grownC hgj imL_wn (imF_wn o) neim
        have imL_w15 : imB < w15.heap.size := Nat.lt_of_lt_of_le imL_wn hgj.size
        have nejf : ∀ k, (Value.slice b2 NB d2).ownBlock = some k → k ≠ jfB := HM2.out.2.2
        have jf0_w15 := cell_grownC hgj jf0_wn nejf
        have jf1_w15 := cell_grownC hgj jf1_wn nejf
        have jf2_w15 := cell_grownC hgj jf2_wn nejf
        have jf3_w15 := cell_grownC hgj jf3_wn nejf
        have jfF_w15 : ∀ o, w15.frozen? ⟨jfB, o, none⟩ = false := fun o => frz_grownC hgj jfL_wn (jfF_wn o) nejf
        have jfL_w15 : jfB < w15.heap.size := Nat.lt_of_lt_of_le jfL_wn hgj.size
        have oS_w15 := hidP (OwnG.grown oS_wn.out hgj (fun j hj he => by have h5 := lhS.out j hj; have h6 := lhJ.out j he; have := HOR3.out; have := sz_w14.out; have := sz_w14q.out; have := sz_wn.out; omega))
        have oT_w15 := hidP (OwnG.grown oT_wn.out hgj (fun j hj he => by have h5 := lhT.out j hj; have h6 := lhJ.out j he; have := HOR3.out; have := sz_w14.out; have := sz_w14q.out; have := sz_wn.out; omega))
        have acc_w15 := hidP (Below.grown acc_wn.out hgj acc_wn.out.size (fun k hk => by have h5 := lhJ.out k hk; have := HOR3.out; have := sz_w14.out; have := sz_w14q.out; have := sz_wn.out; omega))
        have sz_w15 : Hid (wn.heap.size ≤ w15.heap.size) := hidP hgj.size
        clear hgj lp0_wn lp1_wn lpF_wn lpL_wn nelp lq0_wn lq1_wn lq2_wn lq3_wn lqF_wn lqL_wn nelq sp0_wn sp1_wn spF_wn spL_wn nesp sf0_wn sf1_wn sf2_wn sf3_wn sfF_wn sfL_wn nesf im0_wn im1_wn imF_wn imL_wn neim jf0_wn jf1_wn jf2_wn jf3_wn jfF_wn jfL_wn nejf oS_wn oT_wn acc_wn
        have HOR4 := hidP (And.intro HOR3.out (And.intro sz_w14.out (And.intro sz_w14q.out (And.intro sz_wn.out sz_w15.out))))
        clear HOR3 sz_w14 sz_w14q sz_wn sz_w15
        have oI_w15 := hidP (OM.out.1)
        have oJ_w15 := hidP (OM.out.2)
        clear OM
        go_wp2_with fail
        refine (HHd.out _ a2 c2 b2 d2 oI_w15.out.row oJ_w15.out.row).mono ?_
        rintro e w16 ⟨rfl, hb_w16⟩
        have lp0_w16 := (hb_w16.cell lpL_w15).trans lp0_w15
        have lp1_w16 := (hb_w16.cell lpL_w15).trans lp1_w15
        have lpF_w16 : ∀ o, w16.frozen? ⟨w.heap.size, o, none⟩ = false := fun o => (hb_w16.frozen lpL_w15).trans (lpF_w15 o)
        have lpL_w16 : w.heap.size < w16.heap.size := Nat.lt_of_lt_of_le lpL_w15 hb_w16.size
        have lq0_w16 := (hb_w16.cell lqL_w15).trans lq0_w15
        have lq1_w16 := (hb_w16.cell lqL_w15).trans lq1_w15
        have lq2_w16 := (hb_w16.cell lqL_w15).trans lq2_w15
        have lq3_w16 := (hb_w16.cell lqL_w15).trans lq3_w15
        have lqF_w16 : ∀ o, w16.frozen? ⟨w.heap.size + 1, o, none⟩ = false := fun o => (hb_w16.frozen lqL_w15).trans (lqF_w15 o)
        have lqL_w16 : w.heap.size + 1 < w16.heap.size := Nat.lt_of_lt_of_le lqL_w15 hb_w16.size
        have sp0_w16 := (hb_w16.cell spL_w15).trans sp0_w15
        have sp1_w16 := (hb_w16.cell spL_w15).trans sp1_w15
        have spF_w16 : ∀ o, w16.frozen? ⟨spB, o, none⟩ = false := fun o => (hb_w16.frozen spL_w15).trans (spF_w15 o)
        have spL_w16 : spB < w16.heap.size := Nat.lt_of_lt_of_le spL_w15 hb_w16.size
        have sf0_w16 := (hb_w16.cell sfL_w15).trans sf0_w15
        have sf1_w16 := (hb_w16.cell sfL_w15).trans sf1_w15
        have sf2_w16 := (hb_w16.cell sfL_w15).trans sf2_w15
        have sf3_w16 := (hb_w16.cell sfL_w15).trans sf3_w15
        have sfF_w16 : ∀ o, w16.frozen? ⟨sfB, o, none⟩ = false := fun o => (hb_w16.frozen sfL_w15).trans (sfF_w15 o)
        have sfL_w16 : sfB < w16.heap.size := Nat.lt_of_lt_of_le sfL_w15 hb_w16.size
        have im0_w16 := (hb_w16.cell imL_w15).trans im0_w15
        have im1_w16 := (hb_w16.cell imL_w15).trans im1_w15
        have imF_w16 : ∀ o, w16.frozen? ⟨imB, o, none⟩ = false := fun o => (hb_w16.frozen imL_w15).trans (imF_w15 o)
        have imL_w16 : imB < w16.heap.size := Nat.lt_of_lt_of_le imL_w15 hb_w16.size
        have jf0_w16 := (hb_w16.cell jfL_w15).trans jf0_w15
        have jf1_w16 := (hb_w16.cell jfL_w15).trans jf1_w15
        have jf2_w16 := (hb_w16.cell jfL_w15).trans jf2_w15
        have jf3_w16 := (hb_w16.cell jfL_w15).trans jf3_w15
        have jfF_w16 : ∀ o, w16.frozen? ⟨jfB, o, none⟩ = false := fun o => (hb_w16.frozen jfL_w15).trans (jfF_w15 o)
        have jfL_w16 : jfB < w16.heap.size := Nat.lt_of_lt_of_le jfL_w15 hb_w16.size
        have oS_w16 := hidP (OwnG.later oS_w15.out hb_w16)
        have oT_w16 := hidP (OwnG.later oT_w15.out hb_w16)
        have oI_w16 := hidP (OwnG.later oI_w15.out hb_w16)
        have oJ_w16 := hidP (OwnG.later oJ_w15.out hb_w16)
        have acc_w16 := hidP (acc_w15.out.trans (hb_w16.mono acc_w15.out.size))
        have sz_w16 : Hid (w15.heap.size ≤ w16.heap.size) := hidP hb_w16.size
        clear hb_w16 lp0_w15 lp1_w15 lpF_w15 lpL_w15 lq0_w15 lq1_w15 lq2_w15 lq3_w15 lqF_w15 lqL_w15 sp0_w15 sp1_w15 spF_w15 spL_w15 sf0_w15 sf1_w15 sf2_w15 sf3_w15 sfF_w15 sfL_w15 im0_w15 im1_w15 imF_w15 imL_w15 jf0_w15 jf1_w15 jf2_w15 jf3_w15 jfF_w15 jfL_w15 oS_w15 oT_w15 oI_w15 oJ_w15 acc_w15
        go_upto_region 26 with fail
        go_cut [18, 19, 20] (fun t18 t19 t20 X => ∃ (p q : Nat) (a : Option Addr) (c : Nat) (b : Option Addr) (d : Nat), t18 = .pointer (some ⟨p, 0, none⟩) ∧ t19 = .pointer (some ⟨q, 0, none⟩) ∧ t20 = .int .i64 C ∧ w16.heap.size ≤ p ∧ p < X.heap.size ∧ w16.heap.size ≤ q ∧ q < X.heap.size ∧ p ≠ q ∧ (X.cell? ⟨p, 0, none⟩ = some (.slice a NP c) ∧ X.cell? ⟨p, 1, none⟩ = some (.slice b NB d)) ∧ (X.cell? ⟨q, 0, none⟩ = some (.bool F.s) ∧ X.cell? ⟨q, 1, none⟩ = some (.int .i64 F.H.toInt) ∧ X.cell? ⟨q, 2, none⟩ = some (.int .i64 F.L.toInt) ∧ X.cell? ⟨q, 3, none⟩ = some (.int .i64 F.b)) ∧ ((∀ o, X.frozen? ⟨p, o, none⟩ = false) ∧ (∀ o, X.frozen? ⟨q, o, none⟩ = false)) ∧ OwnG KPl 46 X w16.heap.size (.slice a NP c) PS ∧ OwnG KBk 38 X w16.heap.size (.slice b NB d) BS ∧ (∀ k, (Value.slice a NP c).ownBlock = some k → (Value.slice b NB d).ownBlock ≠ some k) ∧ ((∀ k, (Value.slice a NP c).ownBlock = some k → k ≠ p) ∧ (∀ k, (Value.slice b NB d).ownBlock = some k → k ≠ p)) ∧ ((∀ k, (Value.slice a NP c).ownBlock = some k → k ≠ q) ∧ (∀ k, (Value.slice b NB d).ownBlock = some k → k ≠ q)) ∧ Below w16.heap.size w16 X)
        case first =>
          have HSx : Hid (∀ x, Below w16.heap.size w16 x → (x.cell? ⟨w.heap.size, 0, none⟩ = some (.slice ap np cp) ∧ x.cell? ⟨w.heap.size, 1, none⟩ = some (.slice ab nb cb) ∧ x.cell? ⟨w.heap.size + 1, 0, none⟩ = some (.bool pt.s) ∧ x.cell? ⟨w.heap.size + 1, 1, none⟩ = some (.int .i64 pt.H.toInt) ∧ x.cell? ⟨w.heap.size + 1, 2, none⟩ = some (.int .i64 pt.L.toInt) ∧ x.cell? ⟨w.heap.size + 1, 3, none⟩ = some (.int .i64 pt.b) ∧ Below w16.heap.size w16 x)) := hidP fun x h =>
            ⟨(h.cell lpL_w16).trans lp0_w16, (h.cell lpL_w16).trans lp1_w16, (h.cell lqL_w16).trans lq0_w16, (h.cell lqL_w16).trans lq1_w16, (h.cell lqL_w16).trans lq2_w16, (h.cell lqL_w16).trans lq3_w16, h⟩
          refine wp_region_held_drew (S := (fun x => x.cell? ⟨w.heap.size, 0, none⟩ = some (.slice ap np cp) ∧ x.cell? ⟨w.heap.size, 1, none⟩ = some (.slice ab nb cb) ∧ x.cell? ⟨w.heap.size + 1, 0, none⟩ = some (.bool pt.s) ∧ x.cell? ⟨w.heap.size + 1, 1, none⟩ = some (.int .i64 pt.H.toInt) ∧ x.cell? ⟨w.heap.size + 1, 2, none⟩ = some (.int .i64 pt.L.toInt) ∧ x.cell? ⟨w.heap.size + 1, 3, none⟩ = some (.int .i64 pt.b) ∧ Below w16.heap.size w16 x)) (by kernel_rfl) ?_ (fun hHeld => ?_)
          · try dsimp only
            exact HSx.out _ (Below.refl _ _).drew
          refine tk 0 104 rfl ?_
          simp only [pa]
          refine tk 2 106 rfl ?_
          simp only [pa]
          refine tk 4 108 rfl ?_
          simp only [pa]
          clear lp0_w16 lp1_w16 lq0_w16 lq1_w16 lq2_w16 lq3_w16
          refine run_inv (fun A listed a x => ∃ (b1 b3 b5 b6 b7 b8 b9 b10 b11 b12 b13 b14 : Bool) (v1 v3 v5 v6 v7 v8 v9 v10 v11 v14 : Value), listed = #[true, b1, true, b3, true, b5, b6, b7, b8, b9, b10, b11, b12, b13, b14] ∧ a = ((((((((((A.put (some 105) v1).put (some 107) v3).put (some 109) v5).put (some 103) v6).put (some 110) v7).put (some 111) v8).put (some 112) v9).put (some 18) v10).put (some 19) v11).put (some 20) v14) ∧ CvR np nb ps bs NP PS BS pt F C w16.heap.size b1 b3 b5 b6 b7 b8 b9 b10 b11 b12 b13 b14 v1 v3 v5 v6 v7 v8 v9 v10 v11 v14 x) (by decide) hHeld ?_ ?_ ?_
          · refine ⟨false, false, false, false, false, false, false, false, false, false, false, false, u105, u107, u109, u103, u110, u111, u112, undef, undef, undef, rfl, by simp only [pa], ?_⟩
            exact { f1 := (fun e => by cases e), f3 := (fun e => by cases e), f5 := (fun e => by cases e), f6 := (fun e => by cases e), f8 := (fun e => by cases e), f9 := (fun e => by cases e), f14 := (fun e => by cases e), f10 := (fun e => by cases e), f11 := (fun e => by cases e), g := (fun e => by cases e), k1 := (fun e => by cases e), k2 := (fun e => by cases e), dd := (fun _ => ⟨rfl, rfl, rfl, rfl, rfl, rfl, rfl⟩) }
          · rintro listed a x i ⟨b1, b3, b5, b6, b7, b8, b9, b10, b11, b12, b13, b14, v1, v3, v5, v6, v7, v8, v9, v10, v11, v14, rfl, rfl, hF⟩ hHeld hi
            have HF := hidP hF
            have hun := ready_un hi
            have hlt := ready_lt hi
            have hSB := hidP (hHeld.2.2.2.2.2.2)
            clear hF
            match i, hlt with
            | 0, _ => exact absurd hun (by simp)
            | 1, _ =>
              have e1 : b1 = false := hun
              subst e1
              refine wpOp_step rfl (fun K hK0 => ?_)
              have hK := (show Shut _ from hK0)
              clear hK0
              simp only [pa]
              go_simp
              go_wp2_with (first | (go_at_call 21; refine (HTo.out _ (acc_w16.out.trans (hSB.out.mono acc_w16.out.size))).mono ?_; rintro e x2 ⟨g2, h2, rfl, og2, oh2, gh2, hb2⟩))
              refine hK.out _ _ ⟨?_, ?_⟩
              · exact HSx.out _ (hSB.out.trans ((hb2).mono hSB.out.size))
              · refine ⟨true, b3, b5, b6, b7, b8, b9, b10, b11, b12, b13, b14, _, v3, v5, v6, v7, v8, v9, v10, v11, v14, rfl, by simp only [pa]; rfl, ?_⟩
                exact { f1 := fun _ _ => ⟨_, _, rfl, og2.row, oh2.row⟩, f3 := (CvR.later HF.out (hb2)).f3, f5 := (CvR.later HF.out (hb2)).f5, f6 := (CvR.later HF.out (hb2)).f6, f8 := (CvR.later HF.out (hb2)).f8, f9 := (CvR.later HF.out (hb2)).f9, f14 := (CvR.later HF.out (hb2)).f14, f10 := (CvR.later HF.out (hb2)).f10, f11 := (CvR.later HF.out (hb2)).f11, g := (CvR.later HF.out (hb2)).g, dd := (CvR.later HF.out (hb2)).dd, k1 := (CvR.later HF.out (hb2)).k1, k2 := (CvR.later HF.out (hb2)).k2 }
            | 2, _ => exact absurd hun (by simp)
            | 3, _ =>
              have e3 : b3 = false := hun
              subst e3
              have e1 : b1 = true := ready_dep 1 hi (by kernel_rfl)
              subst e1
              refine wpOp_step rfl (fun K hK0 => ?_)
              have hK := (show Shut _ from hK0)
              clear hK0
              simp only [pa]
              go_simp
              go_wp2_with (first | (go_at_call 22; refine (HTp.out _).mono ?_; rintro e x2 ⟨rfl, hb2⟩))
              refine hK.out _ _ ⟨?_, ?_⟩
              · exact HSx.out _ (hSB.out.trans ((hb2).mono hSB.out.size))
              · refine ⟨true, true, b5, b6, b7, b8, b9, b10, b11, b12, b13, b14, v1, _, v5, v6, v7, v8, v9, v10, v11, v14, rfl, by simp only [pa]; rfl, ?_⟩
                exact { f1 := (CvR.later HF.out (hb2)).f1, f3 := fun _ => rfl, f5 := (CvR.later HF.out (hb2)).f5, f6 := (CvR.later HF.out (hb2)).f6, f8 := (CvR.later HF.out (hb2)).f8, f9 := (CvR.later HF.out (hb2)).f9, f14 := (CvR.later HF.out (hb2)).f14, f10 := (CvR.later HF.out (hb2)).f10, f11 := (CvR.later HF.out (hb2)).f11, g := (CvR.later HF.out (hb2)).g, dd := (CvR.later HF.out (hb2)).dd, k1 := (CvR.later HF.out (hb2)).k1, k2 := (CvR.later HF.out (hb2)).k2 }
            | 4, _ => exact absurd hun (by simp)
            | 5, _ =>
              have e5 : b5 = false := hun
              subst e5
              have e1 : b1 = true := ready_dep 1 hi (by kernel_rfl)
              subst e1
              have e3 : b3 = true := ready_dep 3 hi (by kernel_rfl)
              subst e3
              obtain ⟨d6, d7, d8, d9, d12, d13, d14⟩ := HF.out.dd rfl
              subst d6
              subst d7
              subst d8
              subst d9
              subst d12
              subst d13
              subst d14
              obtain ⟨gA, hA, eA, rA1, rA2⟩ := HF.out.f1 rfl rfl
              have eB := HF.out.f3 rfl
              subst eA
              subst eB
              refine wpOp_step rfl (fun K hK0 => ?_)
              have hK := (show Shut _ from hK0)
              clear hK0
              simp only [pa]
              go_simp
              go_wp2_with (first | (go_at_call 8; refine (HIm.out gA hA _ rA1 rA2).mono ?_; rintro e x2 ⟨a2, c2, b2, _, d2, rfl, rfl, op2, ob2, ne2, hb2⟩))
              refine hK.out _ _ ⟨?_, ?_⟩
              · exact HSx.out _ (hSB.out.trans ((hb2).mono hSB.out.size))
              · refine ⟨true, true, true, false, false, false, false, b10, b11, false, false, false, _, _, _, v6, v7, v8, v9, v10, v11, v14, rfl, by simp only [pa]; rfl, ?_⟩
                exact { f1 := (fun _ e => by cases e), f3 := (CvR.later HF.out (hb2)).f3, f5 := fun _ => ⟨_, _, _, _, _, rfl, ⟨rfl, OwnG.mono op2 hSB.out.size, OwnG.mono ob2 hSB.out.size, ne2⟩, (fun e p ep => by obtain ⟨p', ep', _, lp, _⟩ := HF.out.f10 e; have h9 := ptr_inj (ep.symm.trans ep'); exact ⟨(fun k hk => by have := (OwnG.lt op2 k hk).1; omega), (fun k hk => by have := (OwnG.lt ob2 k hk).1; omega)⟩), (fun e p ep => by obtain ⟨p', ep', _, lp, _⟩ := HF.out.f11 e; have h9 := ptr_inj (ep.symm.trans ep'); exact ⟨(fun k hk => by have := (OwnG.lt op2 k hk).1; omega), (fun k hk => by have := (OwnG.lt ob2 k hk).1; omega)⟩), (fun e => by cases e), (fun e => by cases e)⟩, f6 := (fun e => by cases e), f8 := (fun e => by cases e), f9 := (fun e => by cases e), f14 := (fun e => by cases e), f10 := (CvR.later HF.out (hb2)).f10, f11 := (CvR.later HF.out (hb2)).f11, g := (CvR.later HF.out (hb2)).g, dd := (fun e => by cases e), k1 := (fun e => by cases e), k2 := (fun e => by cases e) }
            | 6, _ =>
              have e6 : b6 = false := hun
              subst e6
              have e5 : b5 = true := ready_dep 5 hi (by kernel_rfl)
              subst e5
              refine wpOp_step rfl (fun K hK0 => ?_)
              have hK := (show Shut _ from hK0)
              clear hK0
              simp only [pa]
              go_simp
              refine hK.out _ _ ⟨?_, ?_⟩
              · exact HSx.out _ (hSB.out.trans ((Below.refl _ _).mono hSB.out.size))
              · refine ⟨b1, b3, true, true, b7, b8, b9, b10, b11, b12, b13, b14, v1, v3, v5, _, v7, v8, v9, v10, v11, v14, rfl, by simp only [pa]; rfl, ?_⟩
                exact { f1 := (CvR.later HF.out (Below.refl _ _)).f1, f3 := (CvR.later HF.out (Below.refl _ _)).f3, f5 := (CvR.later HF.out (Below.refl _ _)).f5, f6 := fun _ => rfl, f8 := (CvR.later HF.out (Below.refl _ _)).f8, f9 := (CvR.later HF.out (Below.refl _ _)).f9, f14 := (CvR.later HF.out (Below.refl _ _)).f14, f10 := (CvR.later HF.out (Below.refl _ _)).f10, f11 := (CvR.later HF.out (Below.refl _ _)).f11, g := (CvR.later HF.out (Below.refl _ _)).g, dd := (fun e => by cases e), k1 := (CvR.later HF.out (Below.refl _ _)).k1, k2 := (CvR.later HF.out (Below.refl _ _)).k2 }
            | 7, _ =>
              have e7 : b7 = false := hun
              subst e7
              have e6 : b6 = true := ready_dep 6 hi (by kernel_rfl)
              subst e6
              have e5 : b5 = true := by cases b5; exact absurd (HF.out.dd rfl).1 (by simp); rfl
              subst e5
              obtain ⟨a, c, b, n, d, e5', hR, x1, x2, x3, x4⟩ := HF.out.f5 rfl
              have e6' := HF.out.f6 rfl
              subst e6'
              subst e5'
              have HX := hidP (And.intro hR (And.intro x1 (And.intro x2 (And.intro x3 x4))))
              clear hR x1 x2 x3 x4
              refine wpOp_step rfl (fun K hK0 => ?_)
              have hK := (show Shut _ from hK0)
              clear hK0
              simp only [pa]
              go_simp
              refine hK.out _ _ ⟨?_, ?_⟩
              · exact HSx.out _ (hSB.out.trans ((Below.refl _ _).mono hSB.out.size))
              · refine ⟨b1, b3, true, true, true, b8, b9, b10, b11, b12, b13, b14, v1, v3, _, _, _, v8, v9, v10, v11, v14, rfl, by simp only [pa]; rfl, ?_⟩
                exact { f1 := (CvR.later HF.out (Below.refl _ _)).f1, f3 := (CvR.later HF.out (Below.refl _ _)).f3, f5 := fun _ => ⟨_, _, _, _, _, rfl, HX.out.1, HX.out.2.1, HX.out.2.2.1, fun _ => rfl, HX.out.2.2.2.2⟩, f6 := (CvR.later HF.out (Below.refl _ _)).f6, f8 := (CvR.later HF.out (Below.refl _ _)).f8, f9 := (CvR.later HF.out (Below.refl _ _)).f9, f14 := (CvR.later HF.out (Below.refl _ _)).f14, f10 := (CvR.later HF.out (Below.refl _ _)).f10, f11 := (CvR.later HF.out (Below.refl _ _)).f11, g := (CvR.later HF.out (Below.refl _ _)).g, dd := (fun e => by cases e), k1 := (CvR.later HF.out (Below.refl _ _)).k1, k2 := (CvR.later HF.out (Below.refl _ _)).k2 }
            | 8, _ =>
              have e8 : b8 = false := hun
              subst e8
              have e6 : b6 = true := ready_dep 6 hi (by kernel_rfl)
              subst e6
              have e5 : b5 = true := by cases b5; exact absurd (HF.out.dd rfl).1 (by simp); rfl
              subst e5
              obtain ⟨a, c, b, n, d, e5', hR, x1, x2, x3, x4⟩ := HF.out.f5 rfl
              have e6' := HF.out.f6 rfl
              subst e6'
              subst e5'
              have HX := hidP (And.intro hR (And.intro x1 (And.intro x2 (And.intro x3 x4))))
              clear hR x1 x2 x3 x4
              refine wpOp_step rfl (fun K hK0 => ?_)
              have hK := (show Shut _ from hK0)
              clear hK0
              simp only [pa]
              go_simp
              refine hK.out _ _ ⟨?_, ?_⟩
              · exact HSx.out _ (hSB.out.trans ((Below.refl _ _).mono hSB.out.size))
              · refine ⟨b1, b3, true, true, b7, true, b9, b10, b11, b12, b13, b14, v1, v3, _, _, v7, _, v9, v10, v11, v14, rfl, by simp only [pa]; rfl, ?_⟩
                exact { f1 := (CvR.later HF.out (Below.refl _ _)).f1, f3 := (CvR.later HF.out (Below.refl _ _)).f3, f5 := (CvR.later HF.out (Below.refl _ _)).f5, f6 := (CvR.later HF.out (Below.refl _ _)).f6, f8 := fun _ => rfl, f9 := (CvR.later HF.out (Below.refl _ _)).f9, f14 := (CvR.later HF.out (Below.refl _ _)).f14, f10 := (CvR.later HF.out (Below.refl _ _)).f10, f11 := (CvR.later HF.out (Below.refl _ _)).f11, g := (CvR.later HF.out (Below.refl _ _)).g, dd := (fun e => by cases e), k1 := (CvR.later HF.out (Below.refl _ _)).k1, k2 := (CvR.later HF.out (Below.refl _ _)).k2 }
            | 9, _ =>
              have e9 : b9 = false := hun
              subst e9
              have e6 : b6 = true := ready_dep 6 hi (by kernel_rfl)
              subst e6
              have e5 : b5 = true := by cases b5; exact absurd (HF.out.dd rfl).1 (by simp); rfl
              subst e5
              obtain ⟨a, c, b, n, d, e5', hR, x1, x2, x3, x4⟩ := HF.out.f5 rfl
              have e6' := HF.out.f6 rfl
              subst e6'
              subst e5'
              have HX := hidP (And.intro hR (And.intro x1 (And.intro x2 (And.intro x3 x4))))
              clear hR x1 x2 x3 x4
              refine wpOp_step rfl (fun K hK0 => ?_)
              have hK := (show Shut _ from hK0)
              clear hK0
              simp only [pa]
              go_simp
              refine hK.out _ _ ⟨?_, ?_⟩
              · exact HSx.out _ (hSB.out.trans ((Below.refl _ _).mono hSB.out.size))
              · refine ⟨b1, b3, true, true, b7, b8, true, b10, b11, b12, b13, b14, v1, v3, _, _, v7, v8, _, v10, v11, v14, rfl, by simp only [pa]; rfl, ?_⟩
                exact { f1 := (CvR.later HF.out (Below.refl _ _)).f1, f3 := (CvR.later HF.out (Below.refl _ _)).f3, f5 := (CvR.later HF.out (Below.refl _ _)).f5, f6 := (CvR.later HF.out (Below.refl _ _)).f6, f8 := (CvR.later HF.out (Below.refl _ _)).f8, f9 := fun _ => rfl, f14 := (CvR.later HF.out (Below.refl _ _)).f14, f10 := (CvR.later HF.out (Below.refl _ _)).f10, f11 := (CvR.later HF.out (Below.refl _ _)).f11, g := (CvR.later HF.out (Below.refl _ _)).g, dd := (fun e => by cases e), k1 := (CvR.later HF.out (Below.refl _ _)).k1, k2 := (CvR.later HF.out (Below.refl _ _)).k2 }
            | 10, _ =>
              have e10 : b10 = false := hun
              subst e10
              have hba := alloc_below x (.cells #[.slice none 0 0, .slice none 0 0] 27)
              have d12 : b12 = false := by cases b12; rfl; exact absurd (HF.out.k1 rfl) (by simp)
              subst d12
              refine wpOp_step rfl (fun K hK0 => ?_)
              have hK := (show Shut _ from hK0)
              clear hK0
              simp only [pa]
              go_simp
              refine hK.out _ _ ⟨?_, ?_⟩
              · exact HSx.out _ (hSB.out.trans ((hba).mono hSB.out.size))
              · refine ⟨b1, b3, b5, b6, b7, b8, b9, true, b11, false, b13, b14, v1, v3, v5, v6, v7, v8, v9, _, v11, v14, rfl, by simp only [pa]; rfl, ?_⟩
                exact { f1 := (CvR.later HF.out (hba)).f1, f3 := (CvR.later HF.out (hba)).f3, f5 := (fun e => by
                  obtain ⟨a, c, b, n, d, e1, ⟨n1, o1, o2, o3⟩, x1, x2, x3, x4⟩ := HF.out.f5 e
                  exact ⟨a, c, b, n, d, e1, ⟨n1, OwnG.later o1 hba, OwnG.later o2 hba, o3⟩, (fun _ p ep => by have h9 := ptr_inj ep; exact ⟨(fun k hk => by have := (OwnG.lt o1 k hk).2; omega), (fun k hk => by have := (OwnG.lt o2 k hk).2; omega)⟩), x2, x3, (fun e => by cases e)⟩), f6 := (CvR.later HF.out (hba)).f6, f8 := (CvR.later HF.out (hba)).f8, f9 := (CvR.later HF.out (hba)).f9, f14 := (CvR.later HF.out (hba)).f14, f10 := fun _ => ⟨_, rfl, hSB.out.size, by simp, (fun o => by simp [go_sem]), fun _ => ⟨by simp [go_sem], by simp [go_sem]⟩⟩, f11 := (CvR.later HF.out (hba)).f11, g := fun _ e p q ep eq => by obtain ⟨q', eq', _, lq, _⟩ := HF.out.f11 e; have h9 := ptr_inj (eq.symm.trans eq'); have h8 := ptr_inj ep; omega, dd := (CvR.later HF.out (hba)).dd, k1 := (fun e => by cases e), k2 := (CvR.later HF.out (hba)).k2 }
            | 11, _ =>
              have e11 : b11 = false := hun
              subst e11
              have hba := alloc_below x (.cells #[.bool false, .int .i64 0, .int .i64 0, .int .i64 0] 31)
              have d13 : b13 = false := by cases b13; rfl; exact absurd (HF.out.k2 rfl).1 (by simp)
              subst d13
              refine wpOp_step rfl (fun K hK0 => ?_)
              have hK := (show Shut _ from hK0)
              clear hK0
              simp only [pa]
              go_simp
              refine hK.out _ _ ⟨?_, ?_⟩
              · exact HSx.out _ (hSB.out.trans ((hba).mono hSB.out.size))
              · refine ⟨b1, b3, b5, b6, b7, b8, b9, b10, true, b12, false, b14, v1, v3, v5, v6, v7, v8, v9, v10, _, v14, rfl, by simp only [pa]; rfl, ?_⟩
                exact { f1 := (CvR.later HF.out (hba)).f1, f3 := (CvR.later HF.out (hba)).f3, f5 := (fun e => by
                  obtain ⟨a, c, b, n, d, e1, ⟨n1, o1, o2, o3⟩, x1, x2, x3, x4⟩ := HF.out.f5 e
                  exact ⟨a, c, b, n, d, e1, ⟨n1, OwnG.later o1 hba, OwnG.later o2 hba, o3⟩, x1, (fun _ p ep => by have h9 := ptr_inj ep; exact ⟨(fun k hk => by have := (OwnG.lt o1 k hk).2; omega), (fun k hk => by have := (OwnG.lt o2 k hk).2; omega)⟩), x3, (fun e2 p ep => by obtain ⟨p', ep', _, lp, _⟩ := HF.out.f10 (HF.out.k1 e2); have h9 := ptr_inj (ep.symm.trans ep'); subst h9; exact cells2 lp hba (x4 e2 _ ep))⟩), f6 := (CvR.later HF.out (hba)).f6, f8 := (CvR.later HF.out (hba)).f8, f9 := (CvR.later HF.out (hba)).f9, f14 := (CvR.later HF.out (hba)).f14, f10 := (CvR.later HF.out (hba)).f10, f11 := fun _ => ⟨_, rfl, hSB.out.size, by simp, (fun o => by simp [go_sem]), fun _ => ⟨by simp [go_sem], by simp [go_sem], by simp [go_sem], by simp [go_sem]⟩, (fun e => by cases e)⟩, g := fun e _ p q ep eq => by obtain ⟨p', ep', _, lp, _⟩ := HF.out.f10 e; have h9 := ptr_inj (ep.symm.trans ep'); have h8 := ptr_inj eq; omega, dd := (CvR.later HF.out (hba)).dd, k1 := (CvR.later HF.out (hba)).k1, k2 := (fun e => by cases e) }
            | 12, _ =>
              have e12 : b12 = false := hun
              subst e12
              have e1 : b1 = true := ready_dep 1 hi (by kernel_rfl)
              subst e1
              have e3 : b3 = true := ready_dep 3 hi (by kernel_rfl)
              subst e3
              have e5 : b5 = true := ready_dep 5 hi (by kernel_rfl)
              subst e5
              have e6 : b6 = true := ready_dep 6 hi (by kernel_rfl)
              subst e6
              have e7 : b7 = true := ready_dep 7 hi (by kernel_rfl)
              subst e7
              have e10 : b10 = true := ready_dep 10 hi (by kernel_rfl)
              subst e10
              have e11 : b11 = true := ready_dep 11 hi (by kernel_rfl)
              subst e11
              have d13 : b13 = false := by cases b13; rfl; exact absurd (HF.out.k2 rfl).2 (by simp)
              subst d13
              obtain ⟨a, c, b, _, d, e5', ⟨rfl, oP, oB, hne⟩, x1, x2, x3, x4⟩ := HF.out.f5 rfl
              subst e5'
              obtain ⟨p, ep, lp1, lp2, fp, cp0⟩ := HF.out.f10 rfl
              obtain ⟨q, eq, lq1, lq2, fq, cq0, cq1⟩ := HF.out.f11 rfl
              have hpq := HF.out.g rfl rfl p q ep eq
              have n1 := x1 rfl p ep
              have n2 := x2 rfl q eq
              have e7 := x3 rfl
              subst ep
              subst eq
              subst e7
              have z := cp0 rfl
              have z0 := z.1
              have z1 := z.2
              clear z
              refine wpOp_step rfl (fun K hK0 => ?_)
              have hK := (show Shut _ from hK0)
              clear hK0
              simp only [pa]
              go_simp
              refine hK.out _ _ ⟨?_, ?_⟩
              · exact HSx.out _ (((hSB.out).setCell lp1 _).setCell lp1 _)
              · refine ⟨true, true, true, true, true, b8, b9, true, true, true, false, b14, v1, v3, _, v6, _, v8, v9, _, _, v14, rfl, by simp only [pa]; rfl, ?_⟩
                exact { f1 := (fun _ e => by cases e), f3 := HF.out.f3, f5 := fun _ => ⟨a, c, b, _, d, rfl, ⟨rfl, (OwnG.grown (OwnG.grown oP (grown_cellG _ _ _ _) (fun k hk e => n1.1 k hk (by simpa using e.symm))) (grown_cellG _ _ _ _) (fun k hk e => n1.1 k hk (by simpa using e.symm))), (OwnG.grown (OwnG.grown oB (grown_cellG _ _ _ _) (fun k hk e => n1.2 k hk (by simpa using e.symm))) (grown_cellG _ _ _ _) (fun k hk e => n1.2 k hk (by simpa using e.symm))), hne⟩, x1, x2, fun _ => rfl, (fun _ p' ep' => by have h9 := ptr_inj ep'; subst h9; exact ⟨by simp [go_sem, z0], by simp [go_sem, z1]⟩)⟩, f6 := HF.out.f6, f8 := HF.out.f8, f9 := HF.out.f9, f14 := HF.out.f14, f10 := fun _ => ⟨p, rfl, lp1, by simpa using lp2, (fun o => (frzC (frzC (fp o)))), (fun e => by cases e)⟩, f11 := fun _ => ⟨q, rfl, lq1, by simpa using lq2, (fun o => (frzC (frzC (fq o)))), (fun _ => ⟨(cellC (cellC (cq0 rfl).1 hpq.symm) hpq.symm), (cellC (cellC (cq0 rfl).2.1 hpq.symm) hpq.symm), (cellC (cellC (cq0 rfl).2.2.1 hpq.symm) hpq.symm), (cellC (cellC (cq0 rfl).2.2.2 hpq.symm) hpq.symm)⟩), (fun e => by cases e)⟩, g := HF.out.g, dd := (fun e => by cases e), k1 := fun _ => rfl, k2 := (fun e => by cases e) }
            | 13, _ =>
              have e13 : b13 = false := hun
              subst e13
              have e1 : b1 = true := ready_dep 1 hi (by kernel_rfl)
              subst e1
              have e3 : b3 = true := ready_dep 3 hi (by kernel_rfl)
              subst e3
              have e5 : b5 = true := ready_dep 5 hi (by kernel_rfl)
              subst e5
              have e6 : b6 = true := ready_dep 6 hi (by kernel_rfl)
              subst e6
              have e7 : b7 = true := ready_dep 7 hi (by kernel_rfl)
              subst e7
              have e8 : b8 = true := ready_dep 8 hi (by kernel_rfl)
              subst e8
              have e10 : b10 = true := ready_dep 10 hi (by kernel_rfl)
              subst e10
              have e11 : b11 = true := ready_dep 11 hi (by kernel_rfl)
              subst e11
              have e12 : b12 = true := ready_dep 12 hi (by kernel_rfl)
              subst e12
              obtain ⟨a, c, b, _, d, e5', ⟨rfl, oP, oB, hne⟩, x1, x2, x3, x4⟩ := HF.out.f5 rfl
              subst e5'
              obtain ⟨p, ep, lp1, lp2, fp, cp0⟩ := HF.out.f10 rfl
              obtain ⟨q, eq, lq1, lq2, fq, cq0, cq1⟩ := HF.out.f11 rfl
              have hpq := HF.out.g rfl rfl p q ep eq
              have n1 := x1 rfl p ep
              have n2 := x2 rfl q eq
              have e7 := x3 rfl
              subst ep
              subst eq
              subst e7
              have e8 := HF.out.f8 rfl
              subst e8
              have z := cq0 rfl
              have z0 := z.1
              have z1 := z.2.1
              have z2 := z.2.2.1
              have z3 := z.2.2.2
              clear z
              have y := x4 rfl p rfl
              refine wpOp_step rfl (fun K hK0 => ?_)
              have hK := (show Shut _ from hK0)
              clear hK0
              simp only [pa]
              go_simp
              refine hK.out _ _ ⟨?_, ?_⟩
              · exact HSx.out _ (((((hSB.out).setCell lq1 _).setCell lq1 _).setCell lq1 _).setCell lq1 _)
              · refine ⟨true, true, true, true, true, true, b9, true, true, true, true, b14, v1, v3, _, v6, _, _, v9, _, _, v14, rfl, by simp only [pa]; rfl, ?_⟩
                exact { f1 := (fun _ e => by cases e), f3 := HF.out.f3, f5 := fun _ => ⟨a, c, b, _, d, rfl, ⟨rfl, (OwnG.grown (OwnG.grown (OwnG.grown (OwnG.grown oP (grown_cellG _ _ _ _) (fun k hk e => n2.1 k hk (by simpa using e.symm))) (grown_cellG _ _ _ _) (fun k hk e => n2.1 k hk (by simpa using e.symm))) (grown_cellG _ _ _ _) (fun k hk e => n2.1 k hk (by simpa using e.symm))) (grown_cellG _ _ _ _) (fun k hk e => n2.1 k hk (by simpa using e.symm))), (OwnG.grown (OwnG.grown (OwnG.grown (OwnG.grown oB (grown_cellG _ _ _ _) (fun k hk e => n2.2 k hk (by simpa using e.symm))) (grown_cellG _ _ _ _) (fun k hk e => n2.2 k hk (by simpa using e.symm))) (grown_cellG _ _ _ _) (fun k hk e => n2.2 k hk (by simpa using e.symm))) (grown_cellG _ _ _ _) (fun k hk e => n2.2 k hk (by simpa using e.symm))), hne⟩, x1, x2, fun _ => rfl, (fun _ p' ep' => by have h9 := ptr_inj ep'; subst h9; exact ⟨(cellC (cellC (cellC (cellC y.1 hpq) hpq) hpq) hpq), (cellC (cellC (cellC (cellC y.2 hpq) hpq) hpq) hpq)⟩)⟩, f6 := HF.out.f6, f8 := fun _ => rfl, f9 := HF.out.f9, f14 := HF.out.f14, f10 := fun _ => ⟨p, rfl, lp1, by simpa using lp2, (fun o => (frzC (frzC (frzC (frzC (fp o)))))), (fun e => by cases e)⟩, f11 := fun _ => ⟨q, rfl, lq1, by simpa using lq2, (fun o => (frzC (frzC (frzC (frzC (fq o)))))), (fun e => by cases e), (fun _ => ⟨by simp [go_sem, z0], by simp [go_sem, z1], by simp [go_sem, z2], by simp [go_sem, z3]⟩)⟩, g := HF.out.g, dd := (fun e => by cases e), k1 := fun _ => rfl, k2 := fun _ => ⟨rfl, rfl⟩ }
            | 14, _ =>
              have e14 : b14 = false := hun
              subst e14
              have e1 : b1 = true := ready_dep 1 hi (by kernel_rfl)
              subst e1
              have e3 : b3 = true := ready_dep 3 hi (by kernel_rfl)
              subst e3
              have e5 : b5 = true := ready_dep 5 hi (by kernel_rfl)
              subst e5
              have e6 : b6 = true := ready_dep 6 hi (by kernel_rfl)
              subst e6
              have e7 : b7 = true := ready_dep 7 hi (by kernel_rfl)
              subst e7
              have e8 : b8 = true := ready_dep 8 hi (by kernel_rfl)
              subst e8
              have e9 : b9 = true := ready_dep 9 hi (by kernel_rfl)
              subst e9
              have e10 : b10 = true := ready_dep 10 hi (by kernel_rfl)
              subst e10
              have e11 : b11 = true := ready_dep 11 hi (by kernel_rfl)
              subst e11
              have e12 : b12 = true := ready_dep 12 hi (by kernel_rfl)
              subst e12
              have e13 : b13 = true := ready_dep 13 hi (by kernel_rfl)
              subst e13
              have e9' := HF.out.f9 rfl
              subst e9'
              refine wpOp_step rfl (fun K hK0 => ?_)
              have hK := (show Shut _ from hK0)
              clear hK0
              simp only [pa]
              go_simp
              refine hK.out _ _ ⟨?_, ?_⟩
              · exact HSx.out _ (hSB.out.trans ((Below.refl _ _).mono hSB.out.size))
              · refine ⟨true, true, true, true, true, true, true, true, true, true, true, true, v1, v3, v5, v6, v7, v8, _, v10, v11, _, rfl, by simp only [pa]; rfl, ?_⟩
                exact { f1 := (CvR.later HF.out (Below.refl _ _)).f1, f3 := (CvR.later HF.out (Below.refl _ _)).f3, f5 := (CvR.later HF.out (Below.refl _ _)).f5, f6 := (CvR.later HF.out (Below.refl _ _)).f6, f8 := (CvR.later HF.out (Below.refl _ _)).f8, f9 := (CvR.later HF.out (Below.refl _ _)).f9, f14 := fun _ => rfl, f10 := (CvR.later HF.out (Below.refl _ _)).f10, f11 := (CvR.later HF.out (Below.refl _ _)).f11, g := (CvR.later HF.out (Below.refl _ _)).g, dd := (fun e => by cases e), k1 := (CvR.later HF.out (Below.refl _ _)).k1, k2 := (CvR.later HF.out (Below.refl _ _)).k2 }
            | j + 15, h => exact absurd h (by simp)
          · rintro listed a x ⟨b1, b3, b5, b6, b7, b8, b9, b10, b11, b12, b13, b14, v1, v3, v5, v6, v7, v8, v9, v10, v11, v14, rfl, rfl, hF⟩ hHeld hnil
            have hno : ∀ i, i ∈ Region.ready .any _ _ → False := fun i h => by rw [hnil] at h; cases h
            have e1 : b1 = true := by
              cases b1
              · exact (hno 1 (ready_in (by decide) (by kernel_rfl))).elim
              · rfl
            subst e1
            have e3 : b3 = true := by
              cases b3
              · exact (hno 3 (ready_in (by decide) (by kernel_rfl))).elim
              · rfl
            subst e3
            have e5 : b5 = true := by
              cases b5
              · exact (hno 5 (ready_in (by decide) (by kernel_rfl))).elim
              · rfl
            subst e5
            have e6 : b6 = true := by
              cases b6
              · exact (hno 6 (ready_in (by decide) (by kernel_rfl))).elim
              · rfl
            subst e6
            have e7 : b7 = true := by
              cases b7
              · exact (hno 7 (ready_in (by decide) (by kernel_rfl))).elim
              · rfl
            subst e7
            have e8 : b8 = true := by
              cases b8
              · exact (hno 8 (ready_in (by decide) (by kernel_rfl))).elim
              · rfl
            subst e8
            have e9 : b9 = true := by
              cases b9
              · exact (hno 9 (ready_in (by decide) (by kernel_rfl))).elim
              · rfl
            subst e9
            have e10 : b10 = true := by
              cases b10
              · exact (hno 10 (ready_in (by decide) (by kernel_rfl))).elim
              · rfl
            subst e10
            have e11 : b11 = true := by
              cases b11
              · exact (hno 11 (ready_in (by decide) (by kernel_rfl))).elim
              · rfl
            subst e11
            have e12 : b12 = true := by
              cases b12
              · exact (hno 12 (ready_in (by decide) (by kernel_rfl))).elim
              · rfl
            subst e12
            have e13 : b13 = true := by
              cases b13
              · exact (hno 13 (ready_in (by decide) (by kernel_rfl))).elim
              · rfl
            subst e13
            have e14 : b14 = true := by
              cases b14
              · exact (hno 14 (ready_in (by decide) (by kernel_rfl))).elim
              · rfl
            subst e14
            obtain ⟨a, c, b, n, d, e5', ⟨hn, oP, oB, hne⟩, x1, x2, x3, x4⟩ := hF.f5 rfl
            obtain ⟨p, ep, lp1, lp2, fp, _⟩ := hF.f10 rfl
            obtain ⟨q, eq, lq1, lq2, fq, _, cq⟩ := hF.f11 rfl
            have hpq := hF.g rfl rfl p q ep eq
            have m1 := x1 rfl p ep
            have m2 := x2 rfl q eq
            have y := x4 rfl p ep
            have e14' := hF.f14 rfl
            subst ep
            subst eq
            subst e14'
            have HB := hidP (hHeld.2.2.2.2.2.2)
            have hnn := hn.trans HNB.out.symm
            subst hnn
            have HZ := hidP (And.intro oP (And.intro oB (And.intro hne (And.intro m1 (And.intro m2 (And.intro y (cq rfl)))))))
            clear hHeld hF hnil hno x1 x2 x3 x4 m1 m2 y cq oP oB hne hn e5'
            simp only [pa]
            go_wp2_with fail
            go_meet
            exact ⟨p, q, a, c, b, d, rfl, rfl, rfl, lp1, lp2, lq1, lq2, hpq, HZ.out.2.2.2.2.2.1, HZ.out.2.2.2.2.2.2, ⟨fp, fq⟩, HZ.out.1, HZ.out.2.1, HZ.out.2.2.1, HZ.out.2.2.2.1, HZ.out.2.2.2.2.1, HB.out⟩
        case rest =>
          obtain ⟨wc3, hwc⟩ : ∃ X, X = wc := ⟨_, rfl⟩
          subst hwc
          obtain ⟨hhB, hfB, a3, c3, b3, d3, rfl, rfl, rfl, hp1, hhL_wc3, hq1, hfL_wc3, hpq3, ⟨hh0_wc3, hh1_wc3⟩, ⟨hf0_wc3, hf1_wc3, hf2_wc3, hf3_wc3⟩, ⟨hhF_wc3, hfF_wc3⟩, oX, oY, ne3, m1, m2, hX⟩ := hcut
          have HP3 : Hid (w16.heap.size ≤ hhB ∧ w16.heap.size ≤ hfB ∧ hhB < wc3.heap.size ∧ hfB < wc3.heap.size) := hidP ⟨hp1, hq1, hhL_wc3, hfL_wc3⟩
          have HM3 := hidP (And.intro m1 m2)
          have HNE3 := hidP ne3
          have OX := hidP (And.intro oX oY)
          clear oX oY m1 m2 ne3 hp1 hq1
          have lp0_wc3 := (hX.cell lpL_w16).trans lp0_w16
          have lp1_wc3 := (hX.cell lpL_w16).trans lp1_w16
          have lpF_wc3 : ∀ o, wc3.frozen? ⟨w.heap.size, o, none⟩ = false := fun o => (hX.frozen lpL_w16).trans (lpF_w16 o)
          have lpL_wc3 : w.heap.size < wc3.heap.size := Nat.lt_of_lt_of_le lpL_w16 hX.size
          have lq0_wc3 := (hX.cell lqL_w16).trans lq0_w16
          have lq1_wc3 := (hX.cell lqL_w16).trans lq1_w16
          have lq2_wc3 := (hX.cell lqL_w16).trans lq2_w16
          have lq3_wc3 := (hX.cell lqL_w16).trans lq3_w16
          have lqF_wc3 : ∀ o, wc3.frozen? ⟨w.heap.size + 1, o, none⟩ = false := fun o => (hX.frozen lqL_w16).trans (lqF_w16 o)
          have lqL_wc3 : w.heap.size + 1 < wc3.heap.size := Nat.lt_of_lt_of_le lqL_w16 hX.size
          have sp0_wc3 := (hX.cell spL_w16).trans sp0_w16
          have sp1_wc3 := (hX.cell spL_w16).trans sp1_w16
          have spF_wc3 : ∀ o, wc3.frozen? ⟨spB, o, none⟩ = false := fun o => (hX.frozen spL_w16).trans (spF_w16 o)
          have spL_wc3 : spB < wc3.heap.size := Nat.lt_of_lt_of_le spL_w16 hX.size
          have sf0_wc3 := (hX.cell sfL_w16).trans sf0_w16
          have sf1_wc3 := (hX.cell sfL_w16).trans sf1_w16
          have sf2_wc3 := (hX.cell sfL_w16).trans sf2_w16
          have sf3_wc3 := (hX.cell sfL_w16).trans sf3_w16
          have sfF_wc3 : ∀ o, wc3.frozen? ⟨sfB, o, none⟩ = false := fun o => (hX.frozen sfL_w16).trans (sfF_w16 o)
          have sfL_wc3 : sfB < wc3.heap.size := Nat.lt_of_lt_of_le sfL_w16 hX.size
          have im0_wc3 := (hX.cell imL_w16).trans im0_w16
          have im1_wc3 := (hX.cell imL_w16).trans im1_w16
          have imF_wc3 : ∀ o, wc3.frozen? ⟨imB, o, none⟩ = false := fun o => (hX.frozen imL_w16).trans (imF_w16 o)
          have imL_wc3 : imB < wc3.heap.size := Nat.lt_of_lt_of_le imL_w16 hX.size
          have jf0_wc3 := (hX.cell jfL_w16).trans jf0_w16
          have jf1_wc3 := (hX.cell jfL_w16).trans jf1_w16
          have jf2_wc3 := (hX.cell jfL_w16).trans jf2_w16
          have jf3_wc3 := (hX.cell jfL_w16).trans jf3_w16
          have jfF_wc3 : ∀ o, wc3.frozen? ⟨jfB, o, none⟩ = false := fun o => (hX.frozen jfL_w16).trans (jfF_w16 o)
          have jfL_wc3 : jfB < wc3.heap.size := Nat.lt_of_lt_of_le jfL_w16 hX.size
          have oS_wc3 := hidP (OwnG.later oS_w16.out hX)
          have oT_wc3 := hidP (OwnG.later oT_w16.out hX)
          have oI_wc3 := hidP (OwnG.later oI_w16.out hX)
          have oJ_wc3 := hidP (OwnG.later oJ_w16.out hX)
          have acc_wc3 := hidP (acc_w16.out.trans (hX.mono acc_w16.out.size))
          have sz_wc3 : Hid (w16.heap.size ≤ wc3.heap.size) := hidP hX.size
          clear hX lp0_w16 lp1_w16 lpF_w16 lpL_w16 lq0_w16 lq1_w16 lq2_w16 lq3_w16 lqF_w16 lqL_w16 sp0_w16 sp1_w16 spF_w16 spL_w16 sf0_w16 sf1_w16 sf2_w16 sf3_w16 sfF_w16 sfL_w16 im0_w16 im1_w16 imF_w16 imL_w16 jf0_w16 jf1_w16 jf2_w16 jf3_w16 jfF_w16 jfL_w16 oS_w16 oT_w16 oI_w16 oJ_w16 acc_w16
          have oU_wc3 := hidP (OX.out.1)
          have lhU : Hid (∀ k, (Value.slice a3 NP c3).ownBlock = some k → w16.heap.size ≤ k ∧ k < wc3.heap.size) := hidP (fun k hk => OwnG.lt oU_wc3.out k hk)
          have oV_wc3 := hidP (OX.out.2)
          have lhV : Hid (∀ k, (Value.slice b3 NB d3).ownBlock = some k → w16.heap.size ≤ k ∧ k < wc3.heap.size) := hidP (fun k hk => OwnG.lt oV_wc3.out k hk)
          clear OX
          go_wp2_with fail
          refine (HEr.out _ a3 c3 b3 d3 a1 c1 b1 d1 oU_wc3.out.row oS_wc3.out.row oV_wc3.out.row oT_wc3.out.row).mono ?_
          rintro e w20 ⟨rfl, hb_w20⟩
          have lp0_w20 := (hb_w20.cell lpL_wc3).trans lp0_wc3
          have lp1_w20 := (hb_w20.cell lpL_wc3).trans lp1_wc3
          have lpF_w20 : ∀ o, w20.frozen? ⟨w.heap.size, o, none⟩ = false := fun o => (hb_w20.frozen lpL_wc3).trans (lpF_wc3 o)
          have lpL_w20 : w.heap.size < w20.heap.size := Nat.lt_of_lt_of_le lpL_wc3 hb_w20.size
          have lq0_w20 := (hb_w20.cell lqL_wc3).trans lq0_wc3
          have lq1_w20 := (hb_w20.cell lqL_wc3).trans lq1_wc3
          have lq2_w20 := (hb_w20.cell lqL_wc3).trans lq2_wc3
          have lq3_w20 := (hb_w20.cell lqL_wc3).trans lq3_wc3
          have lqF_w20 : ∀ o, w20.frozen? ⟨w.heap.size + 1, o, none⟩ = false := fun o => (hb_w20.frozen lqL_wc3).trans (lqF_wc3 o)
          have lqL_w20 : w.heap.size + 1 < w20.heap.size := Nat.lt_of_lt_of_le lqL_wc3 hb_w20.size
          have sp0_w20 := (hb_w20.cell spL_wc3).trans sp0_wc3
          have sp1_w20 := (hb_w20.cell spL_wc3).trans sp1_wc3
          have spF_w20 : ∀ o, w20.frozen? ⟨spB, o, none⟩ = false := fun o => (hb_w20.frozen spL_wc3).trans (spF_wc3 o)
          have spL_w20 : spB < w20.heap.size := Nat.lt_of_lt_of_le spL_wc3 hb_w20.size
          have sf0_w20 := (hb_w20.cell sfL_wc3).trans sf0_wc3
          have sf1_w20 := (hb_w20.cell sfL_wc3).trans sf1_wc3
          have sf2_w20 := (hb_w20.cell sfL_wc3).trans sf2_wc3
          have sf3_w20 := (hb_w20.cell sfL_wc3).trans sf3_wc3
          have sfF_w20 : ∀ o, w20.frozen? ⟨sfB, o, none⟩ = false := fun o => (hb_w20.frozen sfL_wc3).trans (sfF_wc3 o)
          have sfL_w20 : sfB < w20.heap.size := Nat.lt_of_lt_of_le sfL_wc3 hb_w20.size
          have im0_w20 := (hb_w20.cell imL_wc3).trans im0_wc3
          have im1_w20 := (hb_w20.cell imL_wc3).trans im1_wc3
          have imF_w20 : ∀ o, w20.frozen? ⟨imB, o, none⟩ = false := fun o => (hb_w20.frozen imL_wc3).trans (imF_wc3 o)
          have imL_w20 : imB < w20.heap.size := Nat.lt_of_lt_of_le imL_wc3 hb_w20.size
          have jf0_w20 := (hb_w20.cell jfL_wc3).trans jf0_wc3
          have jf1_w20 := (hb_w20.cell jfL_wc3).trans jf1_wc3
          have jf2_w20 := (hb_w20.cell jfL_wc3).trans jf2_wc3
          have jf3_w20 := (hb_w20.cell jfL_wc3).trans jf3_wc3
          have jfF_w20 : ∀ o, w20.frozen? ⟨jfB, o, none⟩ = false := fun o => (hb_w20.frozen jfL_wc3).trans (jfF_wc3 o)
          have jfL_w20 : jfB < w20.heap.size := Nat.lt_of_lt_of_le jfL_wc3 hb_w20.size
          have hh0_w20 := (hb_w20.cell hhL_wc3).trans hh0_wc3
          have hh1_w20 := (hb_w20.cell hhL_wc3).trans hh1_wc3
          have hhF_w20 : ∀ o, w20.frozen? ⟨hhB, o, none⟩ = false := fun o => (hb_w20.frozen hhL_wc3).trans (hhF_wc3 o)
          have hhL_w20 : hhB < w20.heap.size := Nat.lt_of_lt_of_le hhL_wc3 hb_w20.size
          have hf0_w20 := (hb_w20.cell hfL_wc3).trans hf0_wc3
          have hf1_w20 := (hb_w20.cell hfL_wc3).trans hf1_wc3
          have hf2_w20 := (hb_w20.cell hfL_wc3).trans hf2_wc3
          have hf3_w20 := (hb_w20.cell hfL_wc3).trans hf3_wc3
          have hfF_w20 : ∀ o, w20.frozen? ⟨hfB, o, none⟩ = false := fun o => (hb_w20.frozen hfL_wc3).trans (hfF_wc3 o)
          have hfL_w20 : hfB < w20.heap.size := Nat.lt_of_lt_of_le hfL_wc3 hb_w20.size
          have oS_w20 := hidP (OwnG.later oS_wc3.out hb_w20)
          have oT_w20 := hidP (OwnG.later oT_wc3.out hb_w20)
          have oI_w20 := hidP (OwnG.later oI_wc3.out hb_w20)
          have oJ_w20 := hidP (OwnG.later oJ_wc3.out hb_w20)
          have oU_w20 := hidP (OwnG.later oU_wc3.out hb_w20)
          have oV_w20 := hidP (OwnG.later oV_wc3.out hb_w20)
          have acc_w20 := hidP (acc_wc3.out.trans (hb_w20.mono acc_wc3.out.size))
          have sz_w20 : Hid (wc3.heap.size ≤ w20.heap.size) := hidP hb_w20.size
          clear hb_w20 lp0_wc3 lp1_wc3 lpF_wc3 lpL_wc3 lq0_wc3 lq1_wc3 lq2_wc3 lq3_wc3 lqF_wc3 lqL_wc3 sp0_wc3 sp1_wc3 spF_wc3 spL_wc3 sf0_wc3 sf1_wc3 sf2_wc3 sf3_wc3 sfF_wc3 sfL_wc3 im0_wc3 im1_wc3 imF_wc3 imL_wc3 jf0_wc3 jf1_wc3 jf2_wc3 jf3_wc3 jfF_wc3 jfL_wc3 hh0_wc3 hh1_wc3 hhF_wc3 hhL_wc3 hf0_wc3 hf1_wc3 hf2_wc3 hf3_wc3 hfF_wc3 hfL_wc3 oS_wc3 oT_wc3 oI_wc3 oJ_wc3 oU_wc3 oV_wc3 acc_wc3
          go_wp2_with fail
          refine (HEp.out _).mono ?_
          rintro e w20q ⟨rfl, hb_w20q⟩
          have lp0_w20q := (hb_w20q.cell lpL_w20).trans lp0_w20
          have lp1_w20q := (hb_w20q.cell lpL_w20).trans lp1_w20
          have lpF_w20q : ∀ o, w20q.frozen? ⟨w.heap.size, o, none⟩ = false := fun o => (hb_w20q.frozen lpL_w20).trans (lpF_w20 o)
          have lpL_w20q : w.heap.size < w20q.heap.size := Nat.lt_of_lt_of_le lpL_w20 hb_w20q.size
          have lq0_w20q := (hb_w20q.cell lqL_w20).trans lq0_w20
          have lq1_w20q := (hb_w20q.cell lqL_w20).trans lq1_w20
          have lq2_w20q := (hb_w20q.cell lqL_w20).trans lq2_w20
          have lq3_w20q := (hb_w20q.cell lqL_w20).trans lq3_w20
          have lqF_w20q : ∀ o, w20q.frozen? ⟨w.heap.size + 1, o, none⟩ = false := fun o => (hb_w20q.frozen lqL_w20).trans (lqF_w20 o)
          have lqL_w20q : w.heap.size + 1 < w20q.heap.size := Nat.lt_of_lt_of_le lqL_w20 hb_w20q.size
          have sp0_w20q := (hb_w20q.cell spL_w20).trans sp0_w20
          have sp1_w20q := (hb_w20q.cell spL_w20).trans sp1_w20
          have spF_w20q : ∀ o, w20q.frozen? ⟨spB, o, none⟩ = false := fun o => (hb_w20q.frozen spL_w20).trans (spF_w20 o)
          have spL_w20q : spB < w20q.heap.size := Nat.lt_of_lt_of_le spL_w20 hb_w20q.size
          have sf0_w20q := (hb_w20q.cell sfL_w20).trans sf0_w20
          have sf1_w20q := (hb_w20q.cell sfL_w20).trans sf1_w20
          have sf2_w20q := (hb_w20q.cell sfL_w20).trans sf2_w20
          have sf3_w20q := (hb_w20q.cell sfL_w20).trans sf3_w20
          have sfF_w20q : ∀ o, w20q.frozen? ⟨sfB, o, none⟩ = false := fun o => (hb_w20q.frozen sfL_w20).trans (sfF_w20 o)
          have sfL_w20q : sfB < w20q.heap.size := Nat.lt_of_lt_of_le sfL_w20 hb_w20q.size
          have im0_w20q := (hb_w20q.cell imL_w20).trans im0_w20
          have im1_w20q := (hb_w20q.cell imL_w20).trans im1_w20
          have imF_w20q : ∀ o, w20q.frozen? ⟨imB, o, none⟩ = false := fun o => (hb_w20q.frozen imL_w20).trans (imF_w20 o)
          have imL_w20q : imB < w20q.heap.size := Nat.lt_of_lt_of_le imL_w20 hb_w20q.size
          have jf0_w20q := (hb_w20q.cell jfL_w20).trans jf0_w20
          have jf1_w20q := (hb_w20q.cell jfL_w20).trans jf1_w20
          have jf2_w20q := (hb_w20q.cell jfL_w20).trans jf2_w20
          have jf3_w20q := (hb_w20q.cell jfL_w20).trans jf3_w20
          have jfF_w20q : ∀ o, w20q.frozen? ⟨jfB, o, none⟩ = false := fun o => (hb_w20q.frozen jfL_w20).trans (jfF_w20 o)
          have jfL_w20q : jfB < w20q.heap.size := Nat.lt_of_lt_of_le jfL_w20 hb_w20q.size
          have hh0_w20q := (hb_w20q.cell hhL_w20).trans hh0_w20
          have hh1_w20q := (hb_w20q.cell hhL_w20).trans hh1_w20
          have hhF_w20q : ∀ o, w20q.frozen? ⟨hhB, o, none⟩ = false := fun o => (hb_w20q.frozen hhL_w20).trans (hhF_w20 o)
          have hhL_w20q : hhB < w20q.heap.size := Nat.lt_of_lt_of_le hhL_w20 hb_w20q.size
          have hf0_w20q := (hb_w20q.cell hfL_w20).trans hf0_w20
          have hf1_w20q := (hb_w20q.cell hfL_w20).trans hf1_w20
          have hf2_w20q := (hb_w20q.cell hfL_w20).trans hf2_w20
          have hf3_w20q := (hb_w20q.cell hfL_w20).trans hf3_w20
          have hfF_w20q : ∀ o, w20q.frozen? ⟨hfB, o, none⟩ = false := fun o => (hb_w20q.frozen hfL_w20).trans (hfF_w20 o)
          have hfL_w20q : hfB < w20q.heap.size := Nat.lt_of_lt_of_le hfL_w20 hb_w20q.size
          have oS_w20q := hidP (OwnG.later oS_w20.out hb_w20q)
          have oT_w20q := hidP (OwnG.later oT_w20.out hb_w20q)
          have oI_w20q := hidP (OwnG.later oI_w20.out hb_w20q)
          have oJ_w20q := hidP (OwnG.later oJ_w20.out hb_w20q)
          have oU_w20q := hidP (OwnG.later oU_w20.out hb_w20q)
          have oV_w20q := hidP (OwnG.later oV_w20.out hb_w20q)
          have acc_w20q := hidP (acc_w20.out.trans (hb_w20q.mono acc_w20.out.size))
          have sz_w20q : Hid (w20.heap.size ≤ w20q.heap.size) := hidP hb_w20q.size
          clear hb_w20q lp0_w20 lp1_w20 lpF_w20 lpL_w20 lq0_w20 lq1_w20 lq2_w20 lq3_w20 lqF_w20 lqL_w20 sp0_w20 sp1_w20 spF_w20 spL_w20 sf0_w20 sf1_w20 sf2_w20 sf3_w20 sfF_w20 sfL_w20 im0_w20 im1_w20 imF_w20 imL_w20 jf0_w20 jf1_w20 jf2_w20 jf3_w20 jfF_w20 jfL_w20 hh0_w20 hh1_w20 hhF_w20 hhL_w20 hf0_w20 hf1_w20 hf2_w20 hf3_w20 hfF_w20 hfL_w20 oS_w20 oT_w20 oI_w20 oJ_w20 oU_w20 oV_w20 acc_w20
          go_wp2_with fail
          refine (HHd.out _ a2 c2 b2 d2 oI_w20q.out.row oJ_w20q.out.row).mono ?_
          rintro e w21 ⟨rfl, hb_w21⟩
          have lp0_w21 := (hb_w21.cell lpL_w20q).trans lp0_w20q
          have lp1_w21 := (hb_w21.cell lpL_w20q).trans lp1_w20q
          have lpF_w21 : ∀ o, w21.frozen? ⟨w.heap.size, o, none⟩ = false := fun o => (hb_w21.frozen lpL_w20q).trans (lpF_w20q o)
          have lpL_w21 : w.heap.size < w21.heap.size := Nat.lt_of_lt_of_le lpL_w20q hb_w21.size
          have lq0_w21 := (hb_w21.cell lqL_w20q).trans lq0_w20q
          have lq1_w21 := (hb_w21.cell lqL_w20q).trans lq1_w20q
          have lq2_w21 := (hb_w21.cell lqL_w20q).trans lq2_w20q
          have lq3_w21 := (hb_w21.cell lqL_w20q).trans lq3_w20q
          have lqF_w21 : ∀ o, w21.frozen? ⟨w.heap.size + 1, o, none⟩ = false := fun o => (hb_w21.frozen lqL_w20q).trans (lqF_w20q o)
          have lqL_w21 : w.heap.size + 1 < w21.heap.size := Nat.lt_of_lt_of_le lqL_w20q hb_w21.size
          have sp0_w21 := (hb_w21.cell spL_w20q).trans sp0_w20q
          have sp1_w21 := (hb_w21.cell spL_w20q).trans sp1_w20q
          have spF_w21 : ∀ o, w21.frozen? ⟨spB, o, none⟩ = false := fun o => (hb_w21.frozen spL_w20q).trans (spF_w20q o)
          have spL_w21 : spB < w21.heap.size := Nat.lt_of_lt_of_le spL_w20q hb_w21.size
          have sf0_w21 := (hb_w21.cell sfL_w20q).trans sf0_w20q
          have sf1_w21 := (hb_w21.cell sfL_w20q).trans sf1_w20q
          have sf2_w21 := (hb_w21.cell sfL_w20q).trans sf2_w20q
          have sf3_w21 := (hb_w21.cell sfL_w20q).trans sf3_w20q
          have sfF_w21 : ∀ o, w21.frozen? ⟨sfB, o, none⟩ = false := fun o => (hb_w21.frozen sfL_w20q).trans (sfF_w20q o)
          have sfL_w21 : sfB < w21.heap.size := Nat.lt_of_lt_of_le sfL_w20q hb_w21.size
          have im0_w21 := (hb_w21.cell imL_w20q).trans im0_w20q
          have im1_w21 := (hb_w21.cell imL_w20q).trans im1_w20q
          have imF_w21 : ∀ o, w21.frozen? ⟨imB, o, none⟩ = false := fun o => (hb_w21.frozen imL_w20q).trans (imF_w20q o)
          have imL_w21 : imB < w21.heap.size := Nat.lt_of_lt_of_le imL_w20q hb_w21.size
          have jf0_w21 := (hb_w21.cell jfL_w20q).trans jf0_w20q
          have jf1_w21 := (hb_w21.cell jfL_w20q).trans jf1_w20q
          have jf2_w21 := (hb_w21.cell jfL_w20q).trans jf2_w20q
          have jf3_w21 := (hb_w21.cell jfL_w20q).trans jf3_w20q
          have jfF_w21 : ∀ o, w21.frozen? ⟨jfB, o, none⟩ = false := fun o => (hb_w21.frozen jfL_w20q).trans (jfF_w20q o)
          have jfL_w21 : jfB < w21.heap.size := Nat.lt_of_lt_of_le jfL_w20q hb_w21.size
          have hh0_w21 := (hb_w21.cell hhL_w20q).trans hh0_w20q
          have hh1_w21 := (hb_w21.cell hhL_w20q).trans hh1_w20q
          have hhF_w21 : ∀ o, w21.frozen? ⟨hhB, o, none⟩ = false := fun o => (hb_w21.frozen hhL_w20q).trans (hhF_w20q o)
          have hhL_w21 : hhB < w21.heap.size := Nat.lt_of_lt_of_le hhL_w20q hb_w21.size
          have hf0_w21 := (hb_w21.cell hfL_w20q).trans hf0_w20q
          have hf1_w21 := (hb_w21.cell hfL_w20q).trans hf1_w20q
          have hf2_w21 := (hb_w21.cell hfL_w20q).trans hf2_w20q
          have hf3_w21 := (hb_w21.cell hfL_w20q).trans hf3_w20q
          have hfF_w21 : ∀ o, w21.frozen? ⟨hfB, o, none⟩ = false := fun o => (hb_w21.frozen hfL_w20q).trans (hfF_w20q o)
          have hfL_w21 : hfB < w21.heap.size := Nat.lt_of_lt_of_le hfL_w20q hb_w21.size
          have oS_w21 := hidP (OwnG.later oS_w20q.out hb_w21)
          have oT_w21 := hidP (OwnG.later oT_w20q.out hb_w21)
          have oI_w21 := hidP (OwnG.later oI_w20q.out hb_w21)
          have oJ_w21 := hidP (OwnG.later oJ_w20q.out hb_w21)
          have oU_w21 := hidP (OwnG.later oU_w20q.out hb_w21)
          have oV_w21 := hidP (OwnG.later oV_w20q.out hb_w21)
          have acc_w21 := hidP (acc_w20q.out.trans (hb_w21.mono acc_w20q.out.size))
          have sz_w21 : Hid (w20q.heap.size ≤ w21.heap.size) := hidP hb_w21.size
          clear hb_w21 lp0_w20q lp1_w20q lpF_w20q lpL_w20q lq0_w20q lq1_w20q lq2_w20q lq3_w20q lqF_w20q lqL_w20q sp0_w20q sp1_w20q spF_w20q spL_w20q sf0_w20q sf1_w20q sf2_w20q sf3_w20q sfF_w20q sfL_w20q im0_w20q im1_w20q imF_w20q imL_w20q jf0_w20q jf1_w20q jf2_w20q jf3_w20q jfF_w20q jfL_w20q hh0_w20q hh1_w20q hhF_w20q hhL_w20q hf0_w20q hf1_w20q hf2_w20q hf3_w20q hfF_w20q hfL_w20q oS_w20q oT_w20q oI_w20q oJ_w20q oU_w20q oV_w20q acc_w20q
          have HOR5 := hidP (And.intro HOR4.out (And.intro sz_w16.out (And.intro sz_wc3.out (And.intro HP3.out (And.intro sz_w20.out (And.intro sz_w20q.out sz_w21.out))))))
          clear HOR4 sz_w16 sz_wc3 sz_w20 sz_w20q sz_w21
          go_wp2_with fail
          go_ret
          exact ⟨rfl, acc_w21.out⟩
  · rw [szT_no ht] at HSz
    clear hP hK hnp hnb hst ht
    go_enter Tryz.func5, Tryz.ntmps5
    go_wp2_with fail
    obtain ⟨lp0_W1, lp1_W1⟩ := box2C w 56 (.slice ap np cp) (.slice ab nb cb)
    have lpF_W1 : ∀ o, (w.alloc (.cells #[.slice ap np cp, .slice ab nb cb] 56)).frozen? ⟨w.heap.size, o, none⟩ = false := fun o => by simp [go_sem]
    have lpL_W1 : w.heap.size < (w.alloc (.cells #[.slice ap np cp, .slice ab nb cb] 56)).heap.size := by simp
    have ab_W1 := alloc_below w (.cells #[.slice ap np cp, .slice ab nb cb] 56)
    have as_W1 : Hid ((w.alloc (.cells #[.slice ap np cp, .slice ab nb cb] 56)).heap.size = w.heap.size + 1) := hidP (by simp)
    generalize w.alloc (.cells #[.slice ap np cp, .slice ab nb cb] 56) = W1 at *
    have acc_W1 := hidP (ab_W1)
    have sz_W1 : Hid (w.heap.size ≤ W1.heap.size) := hidP ab_W1.size
    clear ab_W1 
    obtain ⟨lq0_W2, lq1_W2, lq2_W2, lq3_W2⟩ := box4C W1 59 (.bool pt.s) (.int .i64 pt.H.toInt) (.int .i64 pt.L.toInt) (.int .i64 pt.b)
    have lqF_W2 : ∀ o, (W1.alloc (.cells #[.bool pt.s, .int .i64 pt.H.toInt, .int .i64 pt.L.toInt, .int .i64 pt.b] 59)).frozen? ⟨W1.heap.size, o, none⟩ = false := fun o => by simp [go_sem]
    have lqL_W2 : W1.heap.size < (W1.alloc (.cells #[.bool pt.s, .int .i64 pt.H.toInt, .int .i64 pt.L.toInt, .int .i64 pt.b] 59)).heap.size := by simp
    have ab_W2 := alloc_below W1 (.cells #[.bool pt.s, .int .i64 pt.H.toInt, .int .i64 pt.L.toInt, .int .i64 pt.b] 59)
    have as_W2 : Hid ((W1.alloc (.cells #[.bool pt.s, .int .i64 pt.H.toInt, .int .i64 pt.L.toInt, .int .i64 pt.b] 59)).heap.size = W1.heap.size + 1) := hidP (by simp)
    generalize W1.alloc (.cells #[.bool pt.s, .int .i64 pt.H.toInt, .int .i64 pt.L.toInt, .int .i64 pt.b] 59) = W2 at *
    have lp0_W2 := (ab_W2.cell lpL_W1).trans lp0_W1
    have lp1_W2 := (ab_W2.cell lpL_W1).trans lp1_W1
    have lpF_W2 : ∀ o, W2.frozen? ⟨w.heap.size, o, none⟩ = false := fun o => (ab_W2.frozen lpL_W1).trans (lpF_W1 o)
    have lpL_W2 : w.heap.size < W2.heap.size := Nat.lt_of_lt_of_le lpL_W1 ab_W2.size
    have acc_W2 := hidP (acc_W1.out.trans (ab_W2.mono acc_W1.out.size))
    have sz_W2 : Hid (W1.heap.size ≤ W2.heap.size) := hidP ab_W2.size
    clear ab_W2 lp0_W1 lp1_W1 lpF_W1 lpL_W1 acc_W1
    rw [as_W1.out] at lq0_W2 lq1_W2 lq2_W2 lq3_W2 lqL_W2
    have lqF_W2' : ∀ o, W2.frozen? ⟨w.heap.size + 1, o, none⟩ = false := fun o => by have := lqF_W2 o; rw [as_W1.out] at this; exact this
    clear lqF_W2
    have lqF_W2 := lqF_W2'
    clear lqF_W2'
    refine (HSz.out _ acc_W2.out).mono ?_
    rintro e w2 ⟨rfl, hb2⟩
    have lp0_w2 := (hb2.cell lpL_W2).trans lp0_W2
    have lp1_w2 := (hb2.cell lpL_W2).trans lp1_W2
    have lpF_w2 : ∀ o, w2.frozen? ⟨w.heap.size, o, none⟩ = false := fun o => (hb2.frozen lpL_W2).trans (lpF_W2 o)
    have lpL_w2 : w.heap.size < w2.heap.size := Nat.lt_of_lt_of_le lpL_W2 hb2.size
    have lq0_w2 := (hb2.cell lqL_W2).trans lq0_W2
    have lq1_w2 := (hb2.cell lqL_W2).trans lq1_W2
    have lq2_w2 := (hb2.cell lqL_W2).trans lq2_W2
    have lq3_w2 := (hb2.cell lqL_W2).trans lq3_W2
    have lqF_w2 : ∀ o, w2.frozen? ⟨w.heap.size + 1, o, none⟩ = false := fun o => (hb2.frozen lqL_W2).trans (lqF_W2 o)
    have lqL_w2 : w.heap.size + 1 < w2.heap.size := Nat.lt_of_lt_of_le lqL_W2 hb2.size
    have acc_w2 := hidP (acc_W2.out.trans (hb2.mono acc_W2.out.size))
    have sz_w2 : Hid (W2.heap.size ≤ w2.heap.size) := hidP hb2.size
    clear hb2 lp0_W2 lp1_W2 lpF_W2 lpL_W2 lq0_W2 lq1_W2 lq2_W2 lq3_W2 lqF_W2 lqL_W2 acc_W2
    go_wp2_with fail
    go_ret
    exact ⟨rfl, acc_w2.out⟩

end Go.Proofs.YtdbcdichmmcnbaaGreat
