/-
  The two DropPool answer alike.
-/
import Derived.Test.YthbpehpnikknlaaMDropA
import Derived.Test.YthbpehpnikknlaaBIPok
import Derived.Test.YthbpehpnikknlaaBSPok
namespace Go.Proofs.Ythbpehpnikknlaa
open Go.RowKit

theorem frz4 (w : World) (t : TypeId) (p : Pf) (o : Nat) : (w.alloc (.cells #[.bool p.s, .int .i64 p.H.toInt, .int .i64 p.L.toInt, .int .i64 p.b] t)).frozen? ⟨w.heap.size, o, none⟩ = false := by simp [go_sem]
theorem OwnG.set2 {α : Type} {K : Kd α} {t : TypeId} {w : World} {B x : Nat} {v u u' : Value} {ps : List α} (h : OwnG K t w B v ps) (hx : x < B) : OwnG K t ((w.setCell ⟨x, 0, none⟩ u).setCell ⟨x, 1, none⟩ u') B v ps := by
  have o1 := OwnG.grown h (grown_cellG w x 0 u) (fun k hk e => by have := (OwnG.lt h k hk).1; simp at e; omega)
  exact OwnG.grown o1 (grown_cellG _ x 1 u') (fun k hk e => by have := (OwnG.lt h k hk).1; simp at e; omega)
theorem OwnG.set1 {α : Type} {K : Kd α} {t : TypeId} {w : World} {B x : Nat} {v u : Value} {ps : List α} (h : OwnG K t w B v ps) (hx : x < B) : OwnG K t (w.setCell ⟨x, 0, none⟩ u) B v ps :=
  OwnG.grown h (grown_cellG w x 0 u) (fun k hk e => by have := (OwnG.lt h k hk).1; simp at e; omega)
theorem below_set2 {w0 w : World} {B0 x : Nat} {u u' : Value} (h : Below B0 w0 w) (hx : B0 ≤ x) : Below B0 w0 ((w.setCell ⟨x, 0, none⟩ u).setCell ⟨x, 1, none⟩ u') := (h.setCell hx _).setCell hx _
theorem below_set1 {w0 w : World} {B0 x : Nat} {u : Value} (h : Below B0 w0 w) (hx : B0 ≤ x) : Below B0 w0 (w.setCell ⟨x, 0, none⟩ u) := h.setCell hx _
theorem cell_set2 {w : World} {x b o : Nat} {u u' v : Value} (h : w.cell? ⟨b, o, none⟩ = some v) (hb : b ≠ x) : ((w.setCell ⟨x, 0, none⟩ u).setCell ⟨x, 1, none⟩ u').cell? ⟨b, o, none⟩ = some v := by
  rw [World.cell?_of_block (heap_setCell_other _ ⟨x, 1, none⟩ b _ (by simpa using hb)), World.cell?_of_block (heap_setCell_other _ ⟨x, 0, none⟩ b _ (by simpa using hb))]; exact h
theorem cell_set1 {w : World} {x b o : Nat} {u v : Value} (h : w.cell? ⟨b, o, none⟩ = some v) (hb : b ≠ x) : (w.setCell ⟨x, 0, none⟩ u).cell? ⟨b, o, none⟩ = some v := by
  rw [World.cell?_of_block (heap_setCell_other _ ⟨x, 0, none⟩ b _ (by simpa using hb))]; exact h
theorem frz_set2 {w : World} {x b o : Nat} {u u' : Value} (h : w.frozen? ⟨b, o, none⟩ = false) (hb : b ≠ x) : ((w.setCell ⟨x, 0, none⟩ u).setCell ⟨x, 1, none⟩ u').frozen? ⟨b, o, none⟩ = false := by
  rw [World.frozen?_of_block (heap_setCell_other _ ⟨x, 1, none⟩ b _ (by simpa using hb)), World.frozen?_of_block (heap_setCell_other _ ⟨x, 0, none⟩ b _ (by simpa using hb))]; exact h
theorem frz_set1 {w : World} {x b o : Nat} {u : Value} (h : w.frozen? ⟨b, o, none⟩ = false) (hb : b ≠ x) : (w.setCell ⟨x, 0, none⟩ u).frozen? ⟨b, o, none⟩ = false := by
  rw [World.frozen?_of_block (heap_setCell_other _ ⟨x, 0, none⟩ b _ (by simpa using hb))]; exact h
theorem Sgrown {α : Type} {K : Kd α} {t : TypeId} {w : World} {B : Nat} {v : Value} {ps : List α} (h : OwnG K t w B v ps) : ∀ k, v.ownBlock = some k → B ≤ k := fun k hk => (OwnG.lt h k hk).1

set_option maxRecDepth 10000 in
set_option maxHeartbeats 4000000 in
theorem iDrop_a (pt : Pf) (g h : Nat) (np nb : Nat) (ps : List Pl) (bs : List Bk) (w : World) (hnp : np = ps.length) (hnb : nb = bs.length) (hP : RowG KPl w (some ⟨g, 0, none⟩) ps) (hK : RowG KBk w (some ⟨h, 0, none⟩) bs) (hl : np ≤ 1048576) (hl' : nb ≤ 1048576) (hst : ∀ q ∈ bs, q.t.size ≤ 9223372036854775807) (hr : planB ps bs = false) :
    Calls Try.prog 23 #[.agg #[.slice (some ⟨g, 0, none⟩) np np, .slice (some ⟨h, 0, none⟩) nb nb], .agg #[.bool pt.s, .int .i64 pt.H.toInt, .int .i64 pt.L.toInt, .int .i64 pt.b]] w fun e w' => ∃ a c b d, e = .returned (.tuple #[.agg #[.slice a np c, .slice b nb d], .int .i64 (1)]) ∧ OwnG KPl 48 w' w.heap.size (.slice a np c) (ps) ∧ OwnG KBk 56 w' w.heap.size (.slice b nb d) (bs) ∧ (∀ k, (Value.slice a np c).ownBlock = some k → (Value.slice b nb d).ownBlock ≠ some k) ∧ Below w.heap.size w w' := by
  have HOw := hidP (fun W h' => ownPlan_any (some ⟨g, 0, none⟩) np np (some ⟨h, 0, none⟩) nb nb ps bs W hnp hnb (hP.later h') (hK.later h') hl hl')
  have HPO := hidP (fun W a c b d e1 e2 => iPlanOk_any a np c b nb d ps bs W hnp hnb e1 e2 (by omega) (by omega) hst)
  have HPk := hidP (iPrefixOk_any pt.s pt.H pt.L pt.b)
  change Hid (∀ w, Calls Try.prog 62 _ w fun e w' => e = .returned (.bool pt.pk) ∧ Below w.heap.size w w') at HPk
  have HPl := hidP (fun W a c b d e1 => placeOfPool_any pt a np c b nb d ps W hnp e1 (by omega))
  have HBI := hidP (fun W a c b d e2 => blocksIn_any pt a np c b nb d bs W hnb e2 hl')
  have HN := hidP (And.intro hnp hnb)
  clear hP hK hnp hnb hst
  rw [hr] at HPO
  go_enter Try.func23, Try.ntmps23
  go_wp2_with fail
  have uF := frz2 w 32 (.slice (some ⟨g, 0, none⟩) np np) (.slice (some ⟨h, 0, none⟩) nb nb)
  obtain ⟨u0, u1⟩ := box2 (u := .slice (some ⟨g, 0, none⟩) np np) (v := .slice (some ⟨h, 0, none⟩) nb nb) w 32
  have uB := alloc_below w (.cells #[.slice (some ⟨g, 0, none⟩) np np, .slice (some ⟨h, 0, none⟩) nb nb] 32)
  have uL := alloc_lt w (.cells #[.slice (some ⟨g, 0, none⟩) np np, .slice (some ⟨h, 0, none⟩) nb nb] 32)
  have uS : (w.alloc (.cells #[.slice (some ⟨g, 0, none⟩) np np, .slice (some ⟨h, 0, none⟩) nb nb] 32)).heap.size = w.heap.size + 1 := by simp
  generalize w.alloc (.cells #[.slice (some ⟨g, 0, none⟩) np np, .slice (some ⟨h, 0, none⟩) nb nb] 32) = W1 at *
  obtain ⟨y0, y1, y2, y3⟩ := box4 (p := pt) W1 46
  have yB := alloc_below W1 (.cells #[.bool pt.s, .int .i64 pt.H.toInt, .int .i64 pt.L.toInt, .int .i64 pt.b] 46)
  have yL := alloc_lt W1 (.cells #[.bool pt.s, .int .i64 pt.H.toInt, .int .i64 pt.L.toInt, .int .i64 pt.b] 46)
  have yS : (W1.alloc (.cells #[.bool pt.s, .int .i64 pt.H.toInt, .int .i64 pt.L.toInt, .int .i64 pt.b] 46)).heap.size = W1.heap.size + 1 := by simp
  generalize W1.alloc (.cells #[.bool pt.s, .int .i64 pt.H.toInt, .int .i64 pt.L.toInt, .int .i64 pt.b] 46) = W2 at *
  rw [uS] at y0 y1 y2 y3 yL yS
  have kF := frz2 W2 32 (.slice none 0 0) (.slice none 0 0)
  obtain ⟨k0, k1⟩ := box2 (u := .slice none 0 0) (v := .slice none 0 0) W2 32
  have kB := alloc_below W2 (.cells #[.slice none 0 0, .slice none 0 0] 32)
  have kL := alloc_lt W2 (.cells #[.slice none 0 0, .slice none 0 0] 32)
  have kS : (W2.alloc (.cells #[.slice none 0 0, .slice none 0 0] 32)).heap.size = W2.heap.size + 1 := by simp
  generalize W2.alloc (.cells #[.slice none 0 0, .slice none 0 0] 32) = W3 at *
  rw [yS] at k0 k1 kL kS
  rw [yS] at kF
  have l0 : w.heap.size < W2.heap.size := by omega
  have l1 : w.heap.size + 1 < W2.heap.size := by omega
  have U0 := (kB.cell l0).trans ((yB.cell uL).trans u0)
  have U1 := (kB.cell l0).trans ((yB.cell uL).trans u1)
  have UF : ∀ o, W3.frozen? ⟨w.heap.size, o, none⟩ = false := fun o => (kB.frozen l0).trans ((yB.frozen uL).trans (uF o))
  have Y0 := (kB.cell l1).trans y0
  have Y1 := (kB.cell l1).trans y1
  have Y2 := (kB.cell l1).trans y2
  have Y3 := (kB.cell l1).trans y3
  have acc0 := hidP ((uB.trans (yB.mono uB.size)).trans (kB.mono (Nat.le_trans uB.size yB.size)))
  have UL : w.heap.size < W3.heap.size := by omega
  have YL : w.heap.size + 1 < W3.heap.size := by omega
  have kL3 : w.heap.size + 1 + 1 < W3.heap.size := by omega
  have UL9 := UL
  have kL9 := kL3
  clear uB yB kB uS yS kS u0 u1 y0 y1 y2 y3 uL yL kL uF l0 l1
  refine (HOw.out _ acc0.out).mono ?_
  rintro e w4 ⟨a, c, b, d, rfl, op, ob, hne, hb4⟩
  have pb0_w4 := (hb4.cell UL).trans U0
  have pb1_w4 := (hb4.cell UL).trans U1
  have pbF_w4 : ∀ o, w4.frozen? ⟨w.heap.size, o, none⟩ = false := fun o => (hb4.frozen UL).trans (UF o)
  have pbL_w4 : w.heap.size < w4.heap.size := Nat.lt_of_lt_of_le UL hb4.size
  have at0_w4 := (hb4.cell YL).trans Y0
  have at1_w4 := (hb4.cell YL).trans Y1
  have at2_w4 := (hb4.cell YL).trans Y2
  have at3_w4 := (hb4.cell YL).trans Y3
  have atL_w4 : w.heap.size + 1 < w4.heap.size := Nat.lt_of_lt_of_le YL hb4.size
  have rs0_w4 := (hb4.cell kL3).trans k0
  have rs1_w4 := (hb4.cell kL3).trans k1
  have rsF_w4 : ∀ o, w4.frozen? ⟨w.heap.size + 1 + 1, o, none⟩ = false := fun o => (hb4.frozen kL3).trans (kF o)
  have rsL_w4 : w.heap.size + 1 + 1 < w4.heap.size := Nat.lt_of_lt_of_le kL3 hb4.size
  have acc_w4 := hidP (acc0.out.trans (hb4.mono acc0.out.size))
  have oP_w4 := hidP op
  have oB_w4 := hidP ob
  have HNE := hidP hne
  clear UF U0 U1 UL Y0 Y1 Y2 Y3 YL kF k0 k1 kL3 acc0 hb4 op ob hne
  go_wp2_with fail
  have p0 : ((w4.setCell ⟨w.heap.size, 0, none⟩ (.slice a np c)).setCell ⟨w.heap.size, 1, none⟩ (.slice b nb d)).cell? ⟨w.heap.size, 0, none⟩ = some (.slice a np c) := by simp [go_sem, pb0_w4]
  have p1 : ((w4.setCell ⟨w.heap.size, 0, none⟩ (.slice a np c)).setCell ⟨w.heap.size, 1, none⟩ (.slice b nb d)).cell? ⟨w.heap.size, 1, none⟩ = some (.slice b nb d) := by simp [go_sem, pb1_w4]
  have pF : ∀ o, ((w4.setCell ⟨w.heap.size, 0, none⟩ (.slice a np c)).setCell ⟨w.heap.size, 1, none⟩ (.slice b nb d)).frozen? ⟨w.heap.size, o, none⟩ = false := fun o => by simp [go_sem, pbF_w4 o]
  have q0 : ((w4.setCell ⟨w.heap.size, 0, none⟩ (.slice a np c)).setCell ⟨w.heap.size, 1, none⟩ (.slice b nb d)).cell? ⟨w.heap.size + 1, 0, none⟩ = _ := cell_set2 at0_w4 (by omega)
  have q1 : ((w4.setCell ⟨w.heap.size, 0, none⟩ (.slice a np c)).setCell ⟨w.heap.size, 1, none⟩ (.slice b nb d)).cell? ⟨w.heap.size + 1, 1, none⟩ = _ := cell_set2 at1_w4 (by omega)
  have q2 : ((w4.setCell ⟨w.heap.size, 0, none⟩ (.slice a np c)).setCell ⟨w.heap.size, 1, none⟩ (.slice b nb d)).cell? ⟨w.heap.size + 1, 2, none⟩ = _ := cell_set2 at2_w4 (by omega)
  have q3 : ((w4.setCell ⟨w.heap.size, 0, none⟩ (.slice a np c)).setCell ⟨w.heap.size, 1, none⟩ (.slice b nb d)).cell? ⟨w.heap.size + 1, 3, none⟩ = _ := cell_set2 at3_w4 (by omega)
  have r0 : ((w4.setCell ⟨w.heap.size, 0, none⟩ (.slice a np c)).setCell ⟨w.heap.size, 1, none⟩ (.slice b nb d)).cell? ⟨w.heap.size + 1 + 1, 0, none⟩ = _ := cell_set2 rs0_w4 (by omega)
  have r1 : ((w4.setCell ⟨w.heap.size, 0, none⟩ (.slice a np c)).setCell ⟨w.heap.size, 1, none⟩ (.slice b nb d)).cell? ⟨w.heap.size + 1 + 1, 1, none⟩ = _ := cell_set2 rs1_w4 (by omega)
  have rF : ∀ o, ((w4.setCell ⟨w.heap.size, 0, none⟩ (.slice a np c)).setCell ⟨w.heap.size, 1, none⟩ (.slice b nb d)).frozen? ⟨w.heap.size + 1 + 1, o, none⟩ = false := fun o => frz_set2 (rsF_w4 o) (by omega)
  have oP5 : Hid (OwnG KPl 48 ((w4.setCell ⟨w.heap.size, 0, none⟩ (.slice a np c)).setCell ⟨w.heap.size, 1, none⟩ (.slice b nb d)) W3.heap.size (.slice a np c) ps) := hidP (OwnG.set2 oP_w4.out UL9)
  have oB5 : Hid (OwnG KBk 56 ((w4.setCell ⟨w.heap.size, 0, none⟩ (.slice a np c)).setCell ⟨w.heap.size, 1, none⟩ (.slice b nb d)) W3.heap.size (.slice b nb d) bs) := hidP (OwnG.set2 oB_w4.out UL9)
  have acc5 : Hid (Below w.heap.size w ((w4.setCell ⟨w.heap.size, 0, none⟩ (.slice a np c)).setCell ⟨w.heap.size, 1, none⟩ (.slice b nb d))) := hidP (below_set2 acc_w4.out (Nat.le_refl _))
  have sL5 : ((w4.setCell ⟨w.heap.size, 0, none⟩ (.slice a np c)).setCell ⟨w.heap.size, 1, none⟩ (.slice b nb d)).heap.size = w4.heap.size := by simp
  generalize ((w4.setCell ⟨w.heap.size, 0, none⟩ (.slice a np c)).setCell ⟨w.heap.size, 1, none⟩ (.slice b nb d)) = W5 at *
  have pL5 : w.heap.size < W5.heap.size := by have := pbL_w4; omega
  have qL5 : w.heap.size + 1 < W5.heap.size := by have := atL_w4; omega
  have rL5 : w.heap.size + 1 + 1 < W5.heap.size := by have := rsL_w4; omega
  clear pb0_w4 pb1_w4 pbL_w4 at0_w4 at1_w4 at2_w4 at3_w4 atL_w4 rs0_w4 rs1_w4 rsL_w4 pbF_w4 rsF_w4 oP_w4 oB_w4 acc_w4 sL5
  refine (HPO.out _ a c b d oP5.out.row oB5.out.row).mono ?_
  rintro e w6 ⟨rfl, hb6⟩
  have pb0_w6 := (hb6.cell pL5).trans p0
  have pb1_w6 := (hb6.cell pL5).trans p1
  have pbF_w6 : ∀ o, w6.frozen? ⟨w.heap.size, o, none⟩ = false := fun o => (hb6.frozen pL5).trans (pF o)
  have pbL_w6 : w.heap.size < w6.heap.size := Nat.lt_of_lt_of_le pL5 hb6.size
  have at0_w6 := (hb6.cell qL5).trans q0
  have at1_w6 := (hb6.cell qL5).trans q1
  have at2_w6 := (hb6.cell qL5).trans q2
  have at3_w6 := (hb6.cell qL5).trans q3
  have atL_w6 : w.heap.size + 1 < w6.heap.size := Nat.lt_of_lt_of_le qL5 hb6.size
  have rs0_w6 := (hb6.cell rL5).trans r0
  have rs1_w6 := (hb6.cell rL5).trans r1
  have rsF_w6 : ∀ o, w6.frozen? ⟨w.heap.size + 1 + 1, o, none⟩ = false := fun o => (hb6.frozen rL5).trans (rF o)
  have rsL_w6 : w.heap.size + 1 + 1 < w6.heap.size := Nat.lt_of_lt_of_le rL5 hb6.size
  have oP_w6 := hidP (OwnG.later oP5.out hb6)
  have oB_w6 := hidP (OwnG.later oB5.out hb6)
  have acc_w6 := hidP (acc5.out.trans (hb6.mono acc5.out.size))
  clear pF p0 p1 pL5 q0 q1 q2 q3 qL5 rF r0 r1 rL5 oP5 oB5 acc5 hb6
  go_wp2_with fail
  refine bodyPost_ret (v := .tuple #[.agg #[.slice a np c, .slice b nb d], .int .i64 1]) (by simp [results, Try.results23, go_sem, rs0_w6, rs1_w6]) rfl ⟨_, _, _, _, rfl, (OwnG.set2 oP_w6.out kL9).mono (Nat.le_of_lt UL9), (OwnG.set2 oB_w6.out kL9).mono (Nat.le_of_lt UL9), HNE.out, below_set2 acc_w6.out (by omega)⟩

set_option maxRecDepth 10000 in
set_option maxHeartbeats 4000000 in
theorem iDrop_b (pt : Pf) (g h : Nat) (np nb : Nat) (ps : List Pl) (bs : List Bk) (w : World) (hnp : np = ps.length) (hnb : nb = bs.length) (hP : RowG KPl w (some ⟨g, 0, none⟩) ps) (hK : RowG KBk w (some ⟨h, 0, none⟩) bs) (hl : np ≤ 1048576) (hl' : nb ≤ 1048576) (hst : ∀ q ∈ bs, q.t.size ≤ 9223372036854775807) (hr : planB ps bs = true) (hk : pt.pk = false) :
    Calls Try.prog 23 #[.agg #[.slice (some ⟨g, 0, none⟩) np np, .slice (some ⟨h, 0, none⟩) nb nb], .agg #[.bool pt.s, .int .i64 pt.H.toInt, .int .i64 pt.L.toInt, .int .i64 pt.b]] w fun e w' => ∃ a c b d, e = .returned (.tuple #[.agg #[.slice a np c, .slice b nb d], .int .i64 (1)]) ∧ OwnG KPl 48 w' w.heap.size (.slice a np c) (ps) ∧ OwnG KBk 56 w' w.heap.size (.slice b nb d) (bs) ∧ (∀ k, (Value.slice a np c).ownBlock = some k → (Value.slice b nb d).ownBlock ≠ some k) ∧ Below w.heap.size w w' := by
  have HOw := hidP (fun W h' => ownPlan_any (some ⟨g, 0, none⟩) np np (some ⟨h, 0, none⟩) nb nb ps bs W hnp hnb (hP.later h') (hK.later h') hl hl')
  have HPO := hidP (fun W a c b d e1 e2 => iPlanOk_any a np c b nb d ps bs W hnp hnb e1 e2 (by omega) (by omega) hst)
  have HPk := hidP (iPrefixOk_any pt.s pt.H pt.L pt.b)
  change Hid (∀ w, Calls Try.prog 62 _ w fun e w' => e = .returned (.bool pt.pk) ∧ Below w.heap.size w w') at HPk
  have HPl := hidP (fun W a c b d e1 => placeOfPool_any pt a np c b nb d ps W hnp e1 (by omega))
  have HBI := hidP (fun W a c b d e2 => blocksIn_any pt a np c b nb d bs W hnb e2 hl')
  have HN := hidP (And.intro hnp hnb)
  clear hP hK hnp hnb hst
  rw [hr] at HPO
  rw [hk] at HPk
  go_enter Try.func23, Try.ntmps23
  go_wp2_with fail
  have uF := frz2 w 32 (.slice (some ⟨g, 0, none⟩) np np) (.slice (some ⟨h, 0, none⟩) nb nb)
  obtain ⟨u0, u1⟩ := box2 (u := .slice (some ⟨g, 0, none⟩) np np) (v := .slice (some ⟨h, 0, none⟩) nb nb) w 32
  have uB := alloc_below w (.cells #[.slice (some ⟨g, 0, none⟩) np np, .slice (some ⟨h, 0, none⟩) nb nb] 32)
  have uL := alloc_lt w (.cells #[.slice (some ⟨g, 0, none⟩) np np, .slice (some ⟨h, 0, none⟩) nb nb] 32)
  have uS : (w.alloc (.cells #[.slice (some ⟨g, 0, none⟩) np np, .slice (some ⟨h, 0, none⟩) nb nb] 32)).heap.size = w.heap.size + 1 := by simp
  generalize w.alloc (.cells #[.slice (some ⟨g, 0, none⟩) np np, .slice (some ⟨h, 0, none⟩) nb nb] 32) = W1 at *
  obtain ⟨y0, y1, y2, y3⟩ := box4 (p := pt) W1 46
  have yB := alloc_below W1 (.cells #[.bool pt.s, .int .i64 pt.H.toInt, .int .i64 pt.L.toInt, .int .i64 pt.b] 46)
  have yL := alloc_lt W1 (.cells #[.bool pt.s, .int .i64 pt.H.toInt, .int .i64 pt.L.toInt, .int .i64 pt.b] 46)
  have yS : (W1.alloc (.cells #[.bool pt.s, .int .i64 pt.H.toInt, .int .i64 pt.L.toInt, .int .i64 pt.b] 46)).heap.size = W1.heap.size + 1 := by simp
  generalize W1.alloc (.cells #[.bool pt.s, .int .i64 pt.H.toInt, .int .i64 pt.L.toInt, .int .i64 pt.b] 46) = W2 at *
  rw [uS] at y0 y1 y2 y3 yL yS
  have kF := frz2 W2 32 (.slice none 0 0) (.slice none 0 0)
  obtain ⟨k0, k1⟩ := box2 (u := .slice none 0 0) (v := .slice none 0 0) W2 32
  have kB := alloc_below W2 (.cells #[.slice none 0 0, .slice none 0 0] 32)
  have kL := alloc_lt W2 (.cells #[.slice none 0 0, .slice none 0 0] 32)
  have kS : (W2.alloc (.cells #[.slice none 0 0, .slice none 0 0] 32)).heap.size = W2.heap.size + 1 := by simp
  generalize W2.alloc (.cells #[.slice none 0 0, .slice none 0 0] 32) = W3 at *
  rw [yS] at k0 k1 kL kS
  rw [yS] at kF
  have l0 : w.heap.size < W2.heap.size := by omega
  have l1 : w.heap.size + 1 < W2.heap.size := by omega
  have U0 := (kB.cell l0).trans ((yB.cell uL).trans u0)
  have U1 := (kB.cell l0).trans ((yB.cell uL).trans u1)
  have UF : ∀ o, W3.frozen? ⟨w.heap.size, o, none⟩ = false := fun o => (kB.frozen l0).trans ((yB.frozen uL).trans (uF o))
  have Y0 := (kB.cell l1).trans y0
  have Y1 := (kB.cell l1).trans y1
  have Y2 := (kB.cell l1).trans y2
  have Y3 := (kB.cell l1).trans y3
  have acc0 := hidP ((uB.trans (yB.mono uB.size)).trans (kB.mono (Nat.le_trans uB.size yB.size)))
  have UL : w.heap.size < W3.heap.size := by omega
  have YL : w.heap.size + 1 < W3.heap.size := by omega
  have kL3 : w.heap.size + 1 + 1 < W3.heap.size := by omega
  have UL9 := UL
  have kL9 := kL3
  clear uB yB kB uS yS kS u0 u1 y0 y1 y2 y3 uL yL kL uF l0 l1
  refine (HOw.out _ acc0.out).mono ?_
  rintro e w4 ⟨a, c, b, d, rfl, op, ob, hne, hb4⟩
  have pb0_w4 := (hb4.cell UL).trans U0
  have pb1_w4 := (hb4.cell UL).trans U1
  have pbF_w4 : ∀ o, w4.frozen? ⟨w.heap.size, o, none⟩ = false := fun o => (hb4.frozen UL).trans (UF o)
  have pbL_w4 : w.heap.size < w4.heap.size := Nat.lt_of_lt_of_le UL hb4.size
  have at0_w4 := (hb4.cell YL).trans Y0
  have at1_w4 := (hb4.cell YL).trans Y1
  have at2_w4 := (hb4.cell YL).trans Y2
  have at3_w4 := (hb4.cell YL).trans Y3
  have atL_w4 : w.heap.size + 1 < w4.heap.size := Nat.lt_of_lt_of_le YL hb4.size
  have rs0_w4 := (hb4.cell kL3).trans k0
  have rs1_w4 := (hb4.cell kL3).trans k1
  have rsF_w4 : ∀ o, w4.frozen? ⟨w.heap.size + 1 + 1, o, none⟩ = false := fun o => (hb4.frozen kL3).trans (kF o)
  have rsL_w4 : w.heap.size + 1 + 1 < w4.heap.size := Nat.lt_of_lt_of_le kL3 hb4.size
  have acc_w4 := hidP (acc0.out.trans (hb4.mono acc0.out.size))
  have oP_w4 := hidP op
  have oB_w4 := hidP ob
  have HNE := hidP hne
  clear UF U0 U1 UL Y0 Y1 Y2 Y3 YL kF k0 k1 kL3 acc0 hb4 op ob hne
  go_wp2_with fail
  have p0 : ((w4.setCell ⟨w.heap.size, 0, none⟩ (.slice a np c)).setCell ⟨w.heap.size, 1, none⟩ (.slice b nb d)).cell? ⟨w.heap.size, 0, none⟩ = some (.slice a np c) := by simp [go_sem, pb0_w4]
  have p1 : ((w4.setCell ⟨w.heap.size, 0, none⟩ (.slice a np c)).setCell ⟨w.heap.size, 1, none⟩ (.slice b nb d)).cell? ⟨w.heap.size, 1, none⟩ = some (.slice b nb d) := by simp [go_sem, pb1_w4]
  have pF : ∀ o, ((w4.setCell ⟨w.heap.size, 0, none⟩ (.slice a np c)).setCell ⟨w.heap.size, 1, none⟩ (.slice b nb d)).frozen? ⟨w.heap.size, o, none⟩ = false := fun o => by simp [go_sem, pbF_w4 o]
  have q0 : ((w4.setCell ⟨w.heap.size, 0, none⟩ (.slice a np c)).setCell ⟨w.heap.size, 1, none⟩ (.slice b nb d)).cell? ⟨w.heap.size + 1, 0, none⟩ = _ := cell_set2 at0_w4 (by omega)
  have q1 : ((w4.setCell ⟨w.heap.size, 0, none⟩ (.slice a np c)).setCell ⟨w.heap.size, 1, none⟩ (.slice b nb d)).cell? ⟨w.heap.size + 1, 1, none⟩ = _ := cell_set2 at1_w4 (by omega)
  have q2 : ((w4.setCell ⟨w.heap.size, 0, none⟩ (.slice a np c)).setCell ⟨w.heap.size, 1, none⟩ (.slice b nb d)).cell? ⟨w.heap.size + 1, 2, none⟩ = _ := cell_set2 at2_w4 (by omega)
  have q3 : ((w4.setCell ⟨w.heap.size, 0, none⟩ (.slice a np c)).setCell ⟨w.heap.size, 1, none⟩ (.slice b nb d)).cell? ⟨w.heap.size + 1, 3, none⟩ = _ := cell_set2 at3_w4 (by omega)
  have r0 : ((w4.setCell ⟨w.heap.size, 0, none⟩ (.slice a np c)).setCell ⟨w.heap.size, 1, none⟩ (.slice b nb d)).cell? ⟨w.heap.size + 1 + 1, 0, none⟩ = _ := cell_set2 rs0_w4 (by omega)
  have r1 : ((w4.setCell ⟨w.heap.size, 0, none⟩ (.slice a np c)).setCell ⟨w.heap.size, 1, none⟩ (.slice b nb d)).cell? ⟨w.heap.size + 1 + 1, 1, none⟩ = _ := cell_set2 rs1_w4 (by omega)
  have rF : ∀ o, ((w4.setCell ⟨w.heap.size, 0, none⟩ (.slice a np c)).setCell ⟨w.heap.size, 1, none⟩ (.slice b nb d)).frozen? ⟨w.heap.size + 1 + 1, o, none⟩ = false := fun o => frz_set2 (rsF_w4 o) (by omega)
  have oP5 : Hid (OwnG KPl 48 ((w4.setCell ⟨w.heap.size, 0, none⟩ (.slice a np c)).setCell ⟨w.heap.size, 1, none⟩ (.slice b nb d)) W3.heap.size (.slice a np c) ps) := hidP (OwnG.set2 oP_w4.out UL9)
  have oB5 : Hid (OwnG KBk 56 ((w4.setCell ⟨w.heap.size, 0, none⟩ (.slice a np c)).setCell ⟨w.heap.size, 1, none⟩ (.slice b nb d)) W3.heap.size (.slice b nb d) bs) := hidP (OwnG.set2 oB_w4.out UL9)
  have acc5 : Hid (Below w.heap.size w ((w4.setCell ⟨w.heap.size, 0, none⟩ (.slice a np c)).setCell ⟨w.heap.size, 1, none⟩ (.slice b nb d))) := hidP (below_set2 acc_w4.out (Nat.le_refl _))
  have sL5 : ((w4.setCell ⟨w.heap.size, 0, none⟩ (.slice a np c)).setCell ⟨w.heap.size, 1, none⟩ (.slice b nb d)).heap.size = w4.heap.size := by simp
  generalize ((w4.setCell ⟨w.heap.size, 0, none⟩ (.slice a np c)).setCell ⟨w.heap.size, 1, none⟩ (.slice b nb d)) = W5 at *
  have pL5 : w.heap.size < W5.heap.size := by have := pbL_w4; omega
  have qL5 : w.heap.size + 1 < W5.heap.size := by have := atL_w4; omega
  have rL5 : w.heap.size + 1 + 1 < W5.heap.size := by have := rsL_w4; omega
  clear pb0_w4 pb1_w4 pbL_w4 at0_w4 at1_w4 at2_w4 at3_w4 atL_w4 rs0_w4 rs1_w4 rsL_w4 pbF_w4 rsF_w4 oP_w4 oB_w4 acc_w4 sL5
  refine (HPO.out _ a c b d oP5.out.row oB5.out.row).mono ?_
  rintro e w6 ⟨rfl, hb6⟩
  have pb0_w6 := (hb6.cell pL5).trans p0
  have pb1_w6 := (hb6.cell pL5).trans p1
  have pbF_w6 : ∀ o, w6.frozen? ⟨w.heap.size, o, none⟩ = false := fun o => (hb6.frozen pL5).trans (pF o)
  have pbL_w6 : w.heap.size < w6.heap.size := Nat.lt_of_lt_of_le pL5 hb6.size
  have at0_w6 := (hb6.cell qL5).trans q0
  have at1_w6 := (hb6.cell qL5).trans q1
  have at2_w6 := (hb6.cell qL5).trans q2
  have at3_w6 := (hb6.cell qL5).trans q3
  have atL_w6 : w.heap.size + 1 < w6.heap.size := Nat.lt_of_lt_of_le qL5 hb6.size
  have rs0_w6 := (hb6.cell rL5).trans r0
  have rs1_w6 := (hb6.cell rL5).trans r1
  have rsF_w6 : ∀ o, w6.frozen? ⟨w.heap.size + 1 + 1, o, none⟩ = false := fun o => (hb6.frozen rL5).trans (rF o)
  have rsL_w6 : w.heap.size + 1 + 1 < w6.heap.size := Nat.lt_of_lt_of_le rL5 hb6.size
  have oP_w6 := hidP (OwnG.later oP5.out hb6)
  have oB_w6 := hidP (OwnG.later oB5.out hb6)
  have acc_w6 := hidP (acc5.out.trans (hb6.mono acc5.out.size))
  clear pF p0 p1 pL5 q0 q1 q2 q3 qL5 rF r0 r1 rL5 oP5 oB5 acc5 hb6
  go_wp2_with fail
  refine (HPk.out _).mono ?_
  rintro e w7 ⟨rfl, hb7⟩
  have pb0_w7 := (hb7.cell pbL_w6).trans pb0_w6
  have pb1_w7 := (hb7.cell pbL_w6).trans pb1_w6
  have pbF_w7 : ∀ o, w7.frozen? ⟨w.heap.size, o, none⟩ = false := fun o => (hb7.frozen pbL_w6).trans (pbF_w6 o)
  have pbL_w7 : w.heap.size < w7.heap.size := Nat.lt_of_lt_of_le pbL_w6 hb7.size
  have at0_w7 := (hb7.cell atL_w6).trans at0_w6
  have at1_w7 := (hb7.cell atL_w6).trans at1_w6
  have at2_w7 := (hb7.cell atL_w6).trans at2_w6
  have at3_w7 := (hb7.cell atL_w6).trans at3_w6
  have atL_w7 : w.heap.size + 1 < w7.heap.size := Nat.lt_of_lt_of_le atL_w6 hb7.size
  have rs0_w7 := (hb7.cell rsL_w6).trans rs0_w6
  have rs1_w7 := (hb7.cell rsL_w6).trans rs1_w6
  have rsF_w7 : ∀ o, w7.frozen? ⟨w.heap.size + 1 + 1, o, none⟩ = false := fun o => (hb7.frozen rsL_w6).trans (rsF_w6 o)
  have rsL_w7 : w.heap.size + 1 + 1 < w7.heap.size := Nat.lt_of_lt_of_le rsL_w6 hb7.size
  have oP_w7 := hidP (OwnG.later oP_w6.out hb7)
  have oB_w7 := hidP (OwnG.later oB_w6.out hb7)
  have acc_w7 := hidP (acc_w6.out.trans (hb7.mono acc_w6.out.size))
  clear pbF_w6 pb0_w6 pb1_w6 pbL_w6 at0_w6 at1_w6 at2_w6 at3_w6 atL_w6 rsF_w6 rs0_w6 rs1_w6 rsL_w6 oP_w6 oB_w6 acc_w6 hb7
  go_wp2_with fail
  refine bodyPost_ret (v := .tuple #[.agg #[.slice a np c, .slice b nb d], .int .i64 1]) (by simp [results, Try.results23, go_sem, rs0_w7, rs1_w7]) rfl ⟨_, _, _, _, rfl, (OwnG.set2 oP_w7.out kL9).mono (Nat.le_of_lt UL9), (OwnG.set2 oB_w7.out kL9).mono (Nat.le_of_lt UL9), HNE.out, below_set2 acc_w7.out (by omega)⟩

set_option maxRecDepth 10000 in
set_option maxHeartbeats 4000000 in
theorem iDrop_c (pt : Pf) (g h : Nat) (np nb : Nat) (ps : List Pl) (bs : List Bk) (w : World) (hnp : np = ps.length) (hnb : nb = bs.length) (hP : RowG KPl w (some ⟨g, 0, none⟩) ps) (hK : RowG KBk w (some ⟨h, 0, none⟩) bs) (hl : np ≤ 1048576) (hl' : nb ≤ 1048576) (hst : ∀ q ∈ bs, q.t.size ≤ 9223372036854775807) (hr : planB ps bs = true) (hk : pt.pk = true) (hp : plc pt ps = -1) :
    Calls Try.prog 23 #[.agg #[.slice (some ⟨g, 0, none⟩) np np, .slice (some ⟨h, 0, none⟩) nb nb], .agg #[.bool pt.s, .int .i64 pt.H.toInt, .int .i64 pt.L.toInt, .int .i64 pt.b]] w fun e w' => ∃ a c b d, e = .returned (.tuple #[.agg #[.slice a np c, .slice b nb d], .int .i64 (4)]) ∧ OwnG KPl 48 w' w.heap.size (.slice a np c) (ps) ∧ OwnG KBk 56 w' w.heap.size (.slice b nb d) (bs) ∧ (∀ k, (Value.slice a np c).ownBlock = some k → (Value.slice b nb d).ownBlock ≠ some k) ∧ Below w.heap.size w w' := by
  have HOw := hidP (fun W h' => ownPlan_any (some ⟨g, 0, none⟩) np np (some ⟨h, 0, none⟩) nb nb ps bs W hnp hnb (hP.later h') (hK.later h') hl hl')
  have HPO := hidP (fun W a c b d e1 e2 => iPlanOk_any a np c b nb d ps bs W hnp hnb e1 e2 (by omega) (by omega) hst)
  have HPk := hidP (iPrefixOk_any pt.s pt.H pt.L pt.b)
  change Hid (∀ w, Calls Try.prog 62 _ w fun e w' => e = .returned (.bool pt.pk) ∧ Below w.heap.size w w') at HPk
  have HPl := hidP (fun W a c b d e1 => placeOfPool_any pt a np c b nb d ps W hnp e1 (by omega))
  have HBI := hidP (fun W a c b d e2 => blocksIn_any pt a np c b nb d bs W hnb e2 hl')
  have HN := hidP (And.intro hnp hnb)
  clear hP hK hnp hnb hst
  rw [hr] at HPO
  rw [hk] at HPk
  rw [hp] at HPl
  go_enter Try.func23, Try.ntmps23
  go_wp2_with fail
  have uF := frz2 w 32 (.slice (some ⟨g, 0, none⟩) np np) (.slice (some ⟨h, 0, none⟩) nb nb)
  obtain ⟨u0, u1⟩ := box2 (u := .slice (some ⟨g, 0, none⟩) np np) (v := .slice (some ⟨h, 0, none⟩) nb nb) w 32
  have uB := alloc_below w (.cells #[.slice (some ⟨g, 0, none⟩) np np, .slice (some ⟨h, 0, none⟩) nb nb] 32)
  have uL := alloc_lt w (.cells #[.slice (some ⟨g, 0, none⟩) np np, .slice (some ⟨h, 0, none⟩) nb nb] 32)
  have uS : (w.alloc (.cells #[.slice (some ⟨g, 0, none⟩) np np, .slice (some ⟨h, 0, none⟩) nb nb] 32)).heap.size = w.heap.size + 1 := by simp
  generalize w.alloc (.cells #[.slice (some ⟨g, 0, none⟩) np np, .slice (some ⟨h, 0, none⟩) nb nb] 32) = W1 at *
  obtain ⟨y0, y1, y2, y3⟩ := box4 (p := pt) W1 46
  have yB := alloc_below W1 (.cells #[.bool pt.s, .int .i64 pt.H.toInt, .int .i64 pt.L.toInt, .int .i64 pt.b] 46)
  have yL := alloc_lt W1 (.cells #[.bool pt.s, .int .i64 pt.H.toInt, .int .i64 pt.L.toInt, .int .i64 pt.b] 46)
  have yS : (W1.alloc (.cells #[.bool pt.s, .int .i64 pt.H.toInt, .int .i64 pt.L.toInt, .int .i64 pt.b] 46)).heap.size = W1.heap.size + 1 := by simp
  generalize W1.alloc (.cells #[.bool pt.s, .int .i64 pt.H.toInt, .int .i64 pt.L.toInt, .int .i64 pt.b] 46) = W2 at *
  rw [uS] at y0 y1 y2 y3 yL yS
  have kF := frz2 W2 32 (.slice none 0 0) (.slice none 0 0)
  obtain ⟨k0, k1⟩ := box2 (u := .slice none 0 0) (v := .slice none 0 0) W2 32
  have kB := alloc_below W2 (.cells #[.slice none 0 0, .slice none 0 0] 32)
  have kL := alloc_lt W2 (.cells #[.slice none 0 0, .slice none 0 0] 32)
  have kS : (W2.alloc (.cells #[.slice none 0 0, .slice none 0 0] 32)).heap.size = W2.heap.size + 1 := by simp
  generalize W2.alloc (.cells #[.slice none 0 0, .slice none 0 0] 32) = W3 at *
  rw [yS] at k0 k1 kL kS
  rw [yS] at kF
  have l0 : w.heap.size < W2.heap.size := by omega
  have l1 : w.heap.size + 1 < W2.heap.size := by omega
  have U0 := (kB.cell l0).trans ((yB.cell uL).trans u0)
  have U1 := (kB.cell l0).trans ((yB.cell uL).trans u1)
  have UF : ∀ o, W3.frozen? ⟨w.heap.size, o, none⟩ = false := fun o => (kB.frozen l0).trans ((yB.frozen uL).trans (uF o))
  have Y0 := (kB.cell l1).trans y0
  have Y1 := (kB.cell l1).trans y1
  have Y2 := (kB.cell l1).trans y2
  have Y3 := (kB.cell l1).trans y3
  have acc0 := hidP ((uB.trans (yB.mono uB.size)).trans (kB.mono (Nat.le_trans uB.size yB.size)))
  have UL : w.heap.size < W3.heap.size := by omega
  have YL : w.heap.size + 1 < W3.heap.size := by omega
  have kL3 : w.heap.size + 1 + 1 < W3.heap.size := by omega
  have UL9 := UL
  have kL9 := kL3
  clear uB yB kB uS yS kS u0 u1 y0 y1 y2 y3 uL yL kL uF l0 l1
  refine (HOw.out _ acc0.out).mono ?_
  rintro e w4 ⟨a, c, b, d, rfl, op, ob, hne, hb4⟩
  have pb0_w4 := (hb4.cell UL).trans U0
  have pb1_w4 := (hb4.cell UL).trans U1
  have pbF_w4 : ∀ o, w4.frozen? ⟨w.heap.size, o, none⟩ = false := fun o => (hb4.frozen UL).trans (UF o)
  have pbL_w4 : w.heap.size < w4.heap.size := Nat.lt_of_lt_of_le UL hb4.size
  have at0_w4 := (hb4.cell YL).trans Y0
  have at1_w4 := (hb4.cell YL).trans Y1
  have at2_w4 := (hb4.cell YL).trans Y2
  have at3_w4 := (hb4.cell YL).trans Y3
  have atL_w4 : w.heap.size + 1 < w4.heap.size := Nat.lt_of_lt_of_le YL hb4.size
  have rs0_w4 := (hb4.cell kL3).trans k0
  have rs1_w4 := (hb4.cell kL3).trans k1
  have rsF_w4 : ∀ o, w4.frozen? ⟨w.heap.size + 1 + 1, o, none⟩ = false := fun o => (hb4.frozen kL3).trans (kF o)
  have rsL_w4 : w.heap.size + 1 + 1 < w4.heap.size := Nat.lt_of_lt_of_le kL3 hb4.size
  have acc_w4 := hidP (acc0.out.trans (hb4.mono acc0.out.size))
  have oP_w4 := hidP op
  have oB_w4 := hidP ob
  have HNE := hidP hne
  clear UF U0 U1 UL Y0 Y1 Y2 Y3 YL kF k0 k1 kL3 acc0 hb4 op ob hne
  go_wp2_with fail
  have p0 : ((w4.setCell ⟨w.heap.size, 0, none⟩ (.slice a np c)).setCell ⟨w.heap.size, 1, none⟩ (.slice b nb d)).cell? ⟨w.heap.size, 0, none⟩ = some (.slice a np c) := by simp [go_sem, pb0_w4]
  have p1 : ((w4.setCell ⟨w.heap.size, 0, none⟩ (.slice a np c)).setCell ⟨w.heap.size, 1, none⟩ (.slice b nb d)).cell? ⟨w.heap.size, 1, none⟩ = some (.slice b nb d) := by simp [go_sem, pb1_w4]
  have pF : ∀ o, ((w4.setCell ⟨w.heap.size, 0, none⟩ (.slice a np c)).setCell ⟨w.heap.size, 1, none⟩ (.slice b nb d)).frozen? ⟨w.heap.size, o, none⟩ = false := fun o => by simp [go_sem, pbF_w4 o]
  have q0 : ((w4.setCell ⟨w.heap.size, 0, none⟩ (.slice a np c)).setCell ⟨w.heap.size, 1, none⟩ (.slice b nb d)).cell? ⟨w.heap.size + 1, 0, none⟩ = _ := cell_set2 at0_w4 (by omega)
  have q1 : ((w4.setCell ⟨w.heap.size, 0, none⟩ (.slice a np c)).setCell ⟨w.heap.size, 1, none⟩ (.slice b nb d)).cell? ⟨w.heap.size + 1, 1, none⟩ = _ := cell_set2 at1_w4 (by omega)
  have q2 : ((w4.setCell ⟨w.heap.size, 0, none⟩ (.slice a np c)).setCell ⟨w.heap.size, 1, none⟩ (.slice b nb d)).cell? ⟨w.heap.size + 1, 2, none⟩ = _ := cell_set2 at2_w4 (by omega)
  have q3 : ((w4.setCell ⟨w.heap.size, 0, none⟩ (.slice a np c)).setCell ⟨w.heap.size, 1, none⟩ (.slice b nb d)).cell? ⟨w.heap.size + 1, 3, none⟩ = _ := cell_set2 at3_w4 (by omega)
  have r0 : ((w4.setCell ⟨w.heap.size, 0, none⟩ (.slice a np c)).setCell ⟨w.heap.size, 1, none⟩ (.slice b nb d)).cell? ⟨w.heap.size + 1 + 1, 0, none⟩ = _ := cell_set2 rs0_w4 (by omega)
  have r1 : ((w4.setCell ⟨w.heap.size, 0, none⟩ (.slice a np c)).setCell ⟨w.heap.size, 1, none⟩ (.slice b nb d)).cell? ⟨w.heap.size + 1 + 1, 1, none⟩ = _ := cell_set2 rs1_w4 (by omega)
  have rF : ∀ o, ((w4.setCell ⟨w.heap.size, 0, none⟩ (.slice a np c)).setCell ⟨w.heap.size, 1, none⟩ (.slice b nb d)).frozen? ⟨w.heap.size + 1 + 1, o, none⟩ = false := fun o => frz_set2 (rsF_w4 o) (by omega)
  have oP5 : Hid (OwnG KPl 48 ((w4.setCell ⟨w.heap.size, 0, none⟩ (.slice a np c)).setCell ⟨w.heap.size, 1, none⟩ (.slice b nb d)) W3.heap.size (.slice a np c) ps) := hidP (OwnG.set2 oP_w4.out UL9)
  have oB5 : Hid (OwnG KBk 56 ((w4.setCell ⟨w.heap.size, 0, none⟩ (.slice a np c)).setCell ⟨w.heap.size, 1, none⟩ (.slice b nb d)) W3.heap.size (.slice b nb d) bs) := hidP (OwnG.set2 oB_w4.out UL9)
  have acc5 : Hid (Below w.heap.size w ((w4.setCell ⟨w.heap.size, 0, none⟩ (.slice a np c)).setCell ⟨w.heap.size, 1, none⟩ (.slice b nb d))) := hidP (below_set2 acc_w4.out (Nat.le_refl _))
  have sL5 : ((w4.setCell ⟨w.heap.size, 0, none⟩ (.slice a np c)).setCell ⟨w.heap.size, 1, none⟩ (.slice b nb d)).heap.size = w4.heap.size := by simp
  generalize ((w4.setCell ⟨w.heap.size, 0, none⟩ (.slice a np c)).setCell ⟨w.heap.size, 1, none⟩ (.slice b nb d)) = W5 at *
  have pL5 : w.heap.size < W5.heap.size := by have := pbL_w4; omega
  have qL5 : w.heap.size + 1 < W5.heap.size := by have := atL_w4; omega
  have rL5 : w.heap.size + 1 + 1 < W5.heap.size := by have := rsL_w4; omega
  clear pb0_w4 pb1_w4 pbL_w4 at0_w4 at1_w4 at2_w4 at3_w4 atL_w4 rs0_w4 rs1_w4 rsL_w4 pbF_w4 rsF_w4 oP_w4 oB_w4 acc_w4 sL5
  refine (HPO.out _ a c b d oP5.out.row oB5.out.row).mono ?_
  rintro e w6 ⟨rfl, hb6⟩
  have pb0_w6 := (hb6.cell pL5).trans p0
  have pb1_w6 := (hb6.cell pL5).trans p1
  have pbF_w6 : ∀ o, w6.frozen? ⟨w.heap.size, o, none⟩ = false := fun o => (hb6.frozen pL5).trans (pF o)
  have pbL_w6 : w.heap.size < w6.heap.size := Nat.lt_of_lt_of_le pL5 hb6.size
  have at0_w6 := (hb6.cell qL5).trans q0
  have at1_w6 := (hb6.cell qL5).trans q1
  have at2_w6 := (hb6.cell qL5).trans q2
  have at3_w6 := (hb6.cell qL5).trans q3
  have atL_w6 : w.heap.size + 1 < w6.heap.size := Nat.lt_of_lt_of_le qL5 hb6.size
  have rs0_w6 := (hb6.cell rL5).trans r0
  have rs1_w6 := (hb6.cell rL5).trans r1
  have rsF_w6 : ∀ o, w6.frozen? ⟨w.heap.size + 1 + 1, o, none⟩ = false := fun o => (hb6.frozen rL5).trans (rF o)
  have rsL_w6 : w.heap.size + 1 + 1 < w6.heap.size := Nat.lt_of_lt_of_le rL5 hb6.size
  have oP_w6 := hidP (OwnG.later oP5.out hb6)
  have oB_w6 := hidP (OwnG.later oB5.out hb6)
  have acc_w6 := hidP (acc5.out.trans (hb6.mono acc5.out.size))
  clear pF p0 p1 pL5 q0 q1 q2 q3 qL5 rF r0 r1 rL5 oP5 oB5 acc5 hb6
  go_wp2_with fail
  refine (HPk.out _).mono ?_
  rintro e w7 ⟨rfl, hb7⟩
  have pb0_w7 := (hb7.cell pbL_w6).trans pb0_w6
  have pb1_w7 := (hb7.cell pbL_w6).trans pb1_w6
  have pbF_w7 : ∀ o, w7.frozen? ⟨w.heap.size, o, none⟩ = false := fun o => (hb7.frozen pbL_w6).trans (pbF_w6 o)
  have pbL_w7 : w.heap.size < w7.heap.size := Nat.lt_of_lt_of_le pbL_w6 hb7.size
  have at0_w7 := (hb7.cell atL_w6).trans at0_w6
  have at1_w7 := (hb7.cell atL_w6).trans at1_w6
  have at2_w7 := (hb7.cell atL_w6).trans at2_w6
  have at3_w7 := (hb7.cell atL_w6).trans at3_w6
  have atL_w7 : w.heap.size + 1 < w7.heap.size := Nat.lt_of_lt_of_le atL_w6 hb7.size
  have rs0_w7 := (hb7.cell rsL_w6).trans rs0_w6
  have rs1_w7 := (hb7.cell rsL_w6).trans rs1_w6
  have rsF_w7 : ∀ o, w7.frozen? ⟨w.heap.size + 1 + 1, o, none⟩ = false := fun o => (hb7.frozen rsL_w6).trans (rsF_w6 o)
  have rsL_w7 : w.heap.size + 1 + 1 < w7.heap.size := Nat.lt_of_lt_of_le rsL_w6 hb7.size
  have oP_w7 := hidP (OwnG.later oP_w6.out hb7)
  have oB_w7 := hidP (OwnG.later oB_w6.out hb7)
  have acc_w7 := hidP (acc_w6.out.trans (hb7.mono acc_w6.out.size))
  clear pbF_w6 pb0_w6 pb1_w6 pbL_w6 at0_w6 at1_w6 at2_w6 at3_w6 atL_w6 rsF_w6 rs0_w6 rs1_w6 rsL_w6 oP_w6 oB_w6 acc_w6 hb7
  go_wp2_with fail
  refine (HPl.out _ a c b d oP_w7.out.row).mono ?_
  rintro e w8 ⟨rfl, hb8⟩
  have pb0_w8 := (hb8.cell pbL_w7).trans pb0_w7
  have pb1_w8 := (hb8.cell pbL_w7).trans pb1_w7
  have pbF_w8 : ∀ o, w8.frozen? ⟨w.heap.size, o, none⟩ = false := fun o => (hb8.frozen pbL_w7).trans (pbF_w7 o)
  have pbL_w8 : w.heap.size < w8.heap.size := Nat.lt_of_lt_of_le pbL_w7 hb8.size
  have at0_w8 := (hb8.cell atL_w7).trans at0_w7
  have at1_w8 := (hb8.cell atL_w7).trans at1_w7
  have at2_w8 := (hb8.cell atL_w7).trans at2_w7
  have at3_w8 := (hb8.cell atL_w7).trans at3_w7
  have atL_w8 : w.heap.size + 1 < w8.heap.size := Nat.lt_of_lt_of_le atL_w7 hb8.size
  have rs0_w8 := (hb8.cell rsL_w7).trans rs0_w7
  have rs1_w8 := (hb8.cell rsL_w7).trans rs1_w7
  have rsF_w8 : ∀ o, w8.frozen? ⟨w.heap.size + 1 + 1, o, none⟩ = false := fun o => (hb8.frozen rsL_w7).trans (rsF_w7 o)
  have rsL_w8 : w.heap.size + 1 + 1 < w8.heap.size := Nat.lt_of_lt_of_le rsL_w7 hb8.size
  have oP_w8 := hidP (OwnG.later oP_w7.out hb8)
  have oB_w8 := hidP (OwnG.later oB_w7.out hb8)
  have acc_w8 := hidP (acc_w7.out.trans (hb8.mono acc_w7.out.size))
  clear pbF_w7 pb0_w7 pb1_w7 pbL_w7 at0_w7 at1_w7 at2_w7 at3_w7 atL_w7 rsF_w7 rs0_w7 rs1_w7 rsL_w7 oP_w7 oB_w7 acc_w7 hb8
  go_wp2_with fail
  refine bodyPost_ret (v := .tuple #[.agg #[.slice a np c, .slice b nb d], .int .i64 4]) (by simp [results, Try.results23, go_sem, rs0_w8, rs1_w8]) rfl ⟨_, _, _, _, rfl, (OwnG.set2 oP_w8.out kL9).mono (Nat.le_of_lt UL9), (OwnG.set2 oB_w8.out kL9).mono (Nat.le_of_lt UL9), HNE.out, below_set2 acc_w8.out (by omega)⟩

set_option maxRecDepth 10000 in
set_option maxHeartbeats 4000000 in
theorem iDrop_d (pt : Pf) (g h : Nat) (np nb : Nat) (ps : List Pl) (bs : List Bk) (w : World) (hnp : np = ps.length) (hnb : nb = bs.length) (hP : RowG KPl w (some ⟨g, 0, none⟩) ps) (hK : RowG KBk w (some ⟨h, 0, none⟩) bs) (hl : np ≤ 1048576) (hl' : nb ≤ 1048576) (hst : ∀ q ∈ bs, q.t.size ≤ 9223372036854775807) (hr : planB ps bs = true) (hk : pt.pk = true) (i : Nat) (hp : plc pt ps = (i : Int)) (hu : 0 < (fil bs pt).length) :
    Calls Try.prog 23 #[.agg #[.slice (some ⟨g, 0, none⟩) np np, .slice (some ⟨h, 0, none⟩) nb nb], .agg #[.bool pt.s, .int .i64 pt.H.toInt, .int .i64 pt.L.toInt, .int .i64 pt.b]] w fun e w' => ∃ a c b d, e = .returned (.tuple #[.agg #[.slice a np c, .slice b nb d], .int .i64 (6)]) ∧ OwnG KPl 48 w' w.heap.size (.slice a np c) (ps) ∧ OwnG KBk 56 w' w.heap.size (.slice b nb d) (bs) ∧ (∀ k, (Value.slice a np c).ownBlock = some k → (Value.slice b nb d).ownBlock ≠ some k) ∧ Below w.heap.size w w' := by
  have HOw := hidP (fun W h' => ownPlan_any (some ⟨g, 0, none⟩) np np (some ⟨h, 0, none⟩) nb nb ps bs W hnp hnb (hP.later h') (hK.later h') hl hl')
  have HPO := hidP (fun W a c b d e1 e2 => iPlanOk_any a np c b nb d ps bs W hnp hnb e1 e2 (by omega) (by omega) hst)
  have HPk := hidP (iPrefixOk_any pt.s pt.H pt.L pt.b)
  change Hid (∀ w, Calls Try.prog 62 _ w fun e w' => e = .returned (.bool pt.pk) ∧ Below w.heap.size w w') at HPk
  have HPl := hidP (fun W a c b d e1 => placeOfPool_any pt a np c b nb d ps W hnp e1 (by omega))
  have HBI := hidP (fun W a c b d e2 => blocksIn_any pt a np c b nb d bs W hnb e2 hl')
  have HN := hidP (And.intro hnp hnb)
  clear hP hK hnp hnb hst
  rw [hr] at HPO
  rw [hk] at HPk
  rw [hp] at HPl
  have gi : decide ((i : Int) < 0) = false := decide_eq_false (by omega)
  have gu : decide ((0 : Int) < ((fil bs pt).length : Int)) = true := decide_eq_true (by omega)
  have gu2 : decide (0 < (fil bs pt).length) = true := decide_eq_true hu
  go_enter Try.func23, Try.ntmps23
  go_wp2_with fail
  have uF := frz2 w 32 (.slice (some ⟨g, 0, none⟩) np np) (.slice (some ⟨h, 0, none⟩) nb nb)
  obtain ⟨u0, u1⟩ := box2 (u := .slice (some ⟨g, 0, none⟩) np np) (v := .slice (some ⟨h, 0, none⟩) nb nb) w 32
  have uB := alloc_below w (.cells #[.slice (some ⟨g, 0, none⟩) np np, .slice (some ⟨h, 0, none⟩) nb nb] 32)
  have uL := alloc_lt w (.cells #[.slice (some ⟨g, 0, none⟩) np np, .slice (some ⟨h, 0, none⟩) nb nb] 32)
  have uS : (w.alloc (.cells #[.slice (some ⟨g, 0, none⟩) np np, .slice (some ⟨h, 0, none⟩) nb nb] 32)).heap.size = w.heap.size + 1 := by simp
  generalize w.alloc (.cells #[.slice (some ⟨g, 0, none⟩) np np, .slice (some ⟨h, 0, none⟩) nb nb] 32) = W1 at *
  obtain ⟨y0, y1, y2, y3⟩ := box4 (p := pt) W1 46
  have yB := alloc_below W1 (.cells #[.bool pt.s, .int .i64 pt.H.toInt, .int .i64 pt.L.toInt, .int .i64 pt.b] 46)
  have yL := alloc_lt W1 (.cells #[.bool pt.s, .int .i64 pt.H.toInt, .int .i64 pt.L.toInt, .int .i64 pt.b] 46)
  have yS : (W1.alloc (.cells #[.bool pt.s, .int .i64 pt.H.toInt, .int .i64 pt.L.toInt, .int .i64 pt.b] 46)).heap.size = W1.heap.size + 1 := by simp
  generalize W1.alloc (.cells #[.bool pt.s, .int .i64 pt.H.toInt, .int .i64 pt.L.toInt, .int .i64 pt.b] 46) = W2 at *
  rw [uS] at y0 y1 y2 y3 yL yS
  have kF := frz2 W2 32 (.slice none 0 0) (.slice none 0 0)
  obtain ⟨k0, k1⟩ := box2 (u := .slice none 0 0) (v := .slice none 0 0) W2 32
  have kB := alloc_below W2 (.cells #[.slice none 0 0, .slice none 0 0] 32)
  have kL := alloc_lt W2 (.cells #[.slice none 0 0, .slice none 0 0] 32)
  have kS : (W2.alloc (.cells #[.slice none 0 0, .slice none 0 0] 32)).heap.size = W2.heap.size + 1 := by simp
  generalize W2.alloc (.cells #[.slice none 0 0, .slice none 0 0] 32) = W3 at *
  rw [yS] at k0 k1 kL kS
  rw [yS] at kF
  have l0 : w.heap.size < W2.heap.size := by omega
  have l1 : w.heap.size + 1 < W2.heap.size := by omega
  have U0 := (kB.cell l0).trans ((yB.cell uL).trans u0)
  have U1 := (kB.cell l0).trans ((yB.cell uL).trans u1)
  have UF : ∀ o, W3.frozen? ⟨w.heap.size, o, none⟩ = false := fun o => (kB.frozen l0).trans ((yB.frozen uL).trans (uF o))
  have Y0 := (kB.cell l1).trans y0
  have Y1 := (kB.cell l1).trans y1
  have Y2 := (kB.cell l1).trans y2
  have Y3 := (kB.cell l1).trans y3
  have acc0 := hidP ((uB.trans (yB.mono uB.size)).trans (kB.mono (Nat.le_trans uB.size yB.size)))
  have UL : w.heap.size < W3.heap.size := by omega
  have YL : w.heap.size + 1 < W3.heap.size := by omega
  have kL3 : w.heap.size + 1 + 1 < W3.heap.size := by omega
  have UL9 := UL
  have kL9 := kL3
  clear uB yB kB uS yS kS u0 u1 y0 y1 y2 y3 uL yL kL uF l0 l1
  refine (HOw.out _ acc0.out).mono ?_
  rintro e w4 ⟨a, c, b, d, rfl, op, ob, hne, hb4⟩
  have pb0_w4 := (hb4.cell UL).trans U0
  have pb1_w4 := (hb4.cell UL).trans U1
  have pbF_w4 : ∀ o, w4.frozen? ⟨w.heap.size, o, none⟩ = false := fun o => (hb4.frozen UL).trans (UF o)
  have pbL_w4 : w.heap.size < w4.heap.size := Nat.lt_of_lt_of_le UL hb4.size
  have at0_w4 := (hb4.cell YL).trans Y0
  have at1_w4 := (hb4.cell YL).trans Y1
  have at2_w4 := (hb4.cell YL).trans Y2
  have at3_w4 := (hb4.cell YL).trans Y3
  have atL_w4 : w.heap.size + 1 < w4.heap.size := Nat.lt_of_lt_of_le YL hb4.size
  have rs0_w4 := (hb4.cell kL3).trans k0
  have rs1_w4 := (hb4.cell kL3).trans k1
  have rsF_w4 : ∀ o, w4.frozen? ⟨w.heap.size + 1 + 1, o, none⟩ = false := fun o => (hb4.frozen kL3).trans (kF o)
  have rsL_w4 : w.heap.size + 1 + 1 < w4.heap.size := Nat.lt_of_lt_of_le kL3 hb4.size
  have acc_w4 := hidP (acc0.out.trans (hb4.mono acc0.out.size))
  have oP_w4 := hidP op
  have oB_w4 := hidP ob
  have HNE := hidP hne
  clear UF U0 U1 UL Y0 Y1 Y2 Y3 YL kF k0 k1 kL3 acc0 hb4 op ob hne
  go_wp2_with fail
  have p0 : ((w4.setCell ⟨w.heap.size, 0, none⟩ (.slice a np c)).setCell ⟨w.heap.size, 1, none⟩ (.slice b nb d)).cell? ⟨w.heap.size, 0, none⟩ = some (.slice a np c) := by simp [go_sem, pb0_w4]
  have p1 : ((w4.setCell ⟨w.heap.size, 0, none⟩ (.slice a np c)).setCell ⟨w.heap.size, 1, none⟩ (.slice b nb d)).cell? ⟨w.heap.size, 1, none⟩ = some (.slice b nb d) := by simp [go_sem, pb1_w4]
  have pF : ∀ o, ((w4.setCell ⟨w.heap.size, 0, none⟩ (.slice a np c)).setCell ⟨w.heap.size, 1, none⟩ (.slice b nb d)).frozen? ⟨w.heap.size, o, none⟩ = false := fun o => by simp [go_sem, pbF_w4 o]
  have q0 : ((w4.setCell ⟨w.heap.size, 0, none⟩ (.slice a np c)).setCell ⟨w.heap.size, 1, none⟩ (.slice b nb d)).cell? ⟨w.heap.size + 1, 0, none⟩ = _ := cell_set2 at0_w4 (by omega)
  have q1 : ((w4.setCell ⟨w.heap.size, 0, none⟩ (.slice a np c)).setCell ⟨w.heap.size, 1, none⟩ (.slice b nb d)).cell? ⟨w.heap.size + 1, 1, none⟩ = _ := cell_set2 at1_w4 (by omega)
  have q2 : ((w4.setCell ⟨w.heap.size, 0, none⟩ (.slice a np c)).setCell ⟨w.heap.size, 1, none⟩ (.slice b nb d)).cell? ⟨w.heap.size + 1, 2, none⟩ = _ := cell_set2 at2_w4 (by omega)
  have q3 : ((w4.setCell ⟨w.heap.size, 0, none⟩ (.slice a np c)).setCell ⟨w.heap.size, 1, none⟩ (.slice b nb d)).cell? ⟨w.heap.size + 1, 3, none⟩ = _ := cell_set2 at3_w4 (by omega)
  have r0 : ((w4.setCell ⟨w.heap.size, 0, none⟩ (.slice a np c)).setCell ⟨w.heap.size, 1, none⟩ (.slice b nb d)).cell? ⟨w.heap.size + 1 + 1, 0, none⟩ = _ := cell_set2 rs0_w4 (by omega)
  have r1 : ((w4.setCell ⟨w.heap.size, 0, none⟩ (.slice a np c)).setCell ⟨w.heap.size, 1, none⟩ (.slice b nb d)).cell? ⟨w.heap.size + 1 + 1, 1, none⟩ = _ := cell_set2 rs1_w4 (by omega)
  have rF : ∀ o, ((w4.setCell ⟨w.heap.size, 0, none⟩ (.slice a np c)).setCell ⟨w.heap.size, 1, none⟩ (.slice b nb d)).frozen? ⟨w.heap.size + 1 + 1, o, none⟩ = false := fun o => frz_set2 (rsF_w4 o) (by omega)
  have oP5 : Hid (OwnG KPl 48 ((w4.setCell ⟨w.heap.size, 0, none⟩ (.slice a np c)).setCell ⟨w.heap.size, 1, none⟩ (.slice b nb d)) W3.heap.size (.slice a np c) ps) := hidP (OwnG.set2 oP_w4.out UL9)
  have oB5 : Hid (OwnG KBk 56 ((w4.setCell ⟨w.heap.size, 0, none⟩ (.slice a np c)).setCell ⟨w.heap.size, 1, none⟩ (.slice b nb d)) W3.heap.size (.slice b nb d) bs) := hidP (OwnG.set2 oB_w4.out UL9)
  have acc5 : Hid (Below w.heap.size w ((w4.setCell ⟨w.heap.size, 0, none⟩ (.slice a np c)).setCell ⟨w.heap.size, 1, none⟩ (.slice b nb d))) := hidP (below_set2 acc_w4.out (Nat.le_refl _))
  have sL5 : ((w4.setCell ⟨w.heap.size, 0, none⟩ (.slice a np c)).setCell ⟨w.heap.size, 1, none⟩ (.slice b nb d)).heap.size = w4.heap.size := by simp
  generalize ((w4.setCell ⟨w.heap.size, 0, none⟩ (.slice a np c)).setCell ⟨w.heap.size, 1, none⟩ (.slice b nb d)) = W5 at *
  have pL5 : w.heap.size < W5.heap.size := by have := pbL_w4; omega
  have qL5 : w.heap.size + 1 < W5.heap.size := by have := atL_w4; omega
  have rL5 : w.heap.size + 1 + 1 < W5.heap.size := by have := rsL_w4; omega
  clear pb0_w4 pb1_w4 pbL_w4 at0_w4 at1_w4 at2_w4 at3_w4 atL_w4 rs0_w4 rs1_w4 rsL_w4 pbF_w4 rsF_w4 oP_w4 oB_w4 acc_w4 sL5
  refine (HPO.out _ a c b d oP5.out.row oB5.out.row).mono ?_
  rintro e w6 ⟨rfl, hb6⟩
  have pb0_w6 := (hb6.cell pL5).trans p0
  have pb1_w6 := (hb6.cell pL5).trans p1
  have pbF_w6 : ∀ o, w6.frozen? ⟨w.heap.size, o, none⟩ = false := fun o => (hb6.frozen pL5).trans (pF o)
  have pbL_w6 : w.heap.size < w6.heap.size := Nat.lt_of_lt_of_le pL5 hb6.size
  have at0_w6 := (hb6.cell qL5).trans q0
  have at1_w6 := (hb6.cell qL5).trans q1
  have at2_w6 := (hb6.cell qL5).trans q2
  have at3_w6 := (hb6.cell qL5).trans q3
  have atL_w6 : w.heap.size + 1 < w6.heap.size := Nat.lt_of_lt_of_le qL5 hb6.size
  have rs0_w6 := (hb6.cell rL5).trans r0
  have rs1_w6 := (hb6.cell rL5).trans r1
  have rsF_w6 : ∀ o, w6.frozen? ⟨w.heap.size + 1 + 1, o, none⟩ = false := fun o => (hb6.frozen rL5).trans (rF o)
  have rsL_w6 : w.heap.size + 1 + 1 < w6.heap.size := Nat.lt_of_lt_of_le rL5 hb6.size
  have oP_w6 := hidP (OwnG.later oP5.out hb6)
  have oB_w6 := hidP (OwnG.later oB5.out hb6)
  have acc_w6 := hidP (acc5.out.trans (hb6.mono acc5.out.size))
  clear pF p0 p1 pL5 q0 q1 q2 q3 qL5 rF r0 r1 rL5 oP5 oB5 acc5 hb6
  go_wp2_with fail
  refine (HPk.out _).mono ?_
  rintro e w7 ⟨rfl, hb7⟩
  have pb0_w7 := (hb7.cell pbL_w6).trans pb0_w6
  have pb1_w7 := (hb7.cell pbL_w6).trans pb1_w6
  have pbF_w7 : ∀ o, w7.frozen? ⟨w.heap.size, o, none⟩ = false := fun o => (hb7.frozen pbL_w6).trans (pbF_w6 o)
  have pbL_w7 : w.heap.size < w7.heap.size := Nat.lt_of_lt_of_le pbL_w6 hb7.size
  have at0_w7 := (hb7.cell atL_w6).trans at0_w6
  have at1_w7 := (hb7.cell atL_w6).trans at1_w6
  have at2_w7 := (hb7.cell atL_w6).trans at2_w6
  have at3_w7 := (hb7.cell atL_w6).trans at3_w6
  have atL_w7 : w.heap.size + 1 < w7.heap.size := Nat.lt_of_lt_of_le atL_w6 hb7.size
  have rs0_w7 := (hb7.cell rsL_w6).trans rs0_w6
  have rs1_w7 := (hb7.cell rsL_w6).trans rs1_w6
  have rsF_w7 : ∀ o, w7.frozen? ⟨w.heap.size + 1 + 1, o, none⟩ = false := fun o => (hb7.frozen rsL_w6).trans (rsF_w6 o)
  have rsL_w7 : w.heap.size + 1 + 1 < w7.heap.size := Nat.lt_of_lt_of_le rsL_w6 hb7.size
  have oP_w7 := hidP (OwnG.later oP_w6.out hb7)
  have oB_w7 := hidP (OwnG.later oB_w6.out hb7)
  have acc_w7 := hidP (acc_w6.out.trans (hb7.mono acc_w6.out.size))
  clear pbF_w6 pb0_w6 pb1_w6 pbL_w6 at0_w6 at1_w6 at2_w6 at3_w6 atL_w6 rsF_w6 rs0_w6 rs1_w6 rsL_w6 oP_w6 oB_w6 acc_w6 hb7
  go_wp2_with fail
  refine (HPl.out _ a c b d oP_w7.out.row).mono ?_
  rintro e w8 ⟨rfl, hb8⟩
  have pb0_w8 := (hb8.cell pbL_w7).trans pb0_w7
  have pb1_w8 := (hb8.cell pbL_w7).trans pb1_w7
  have pbF_w8 : ∀ o, w8.frozen? ⟨w.heap.size, o, none⟩ = false := fun o => (hb8.frozen pbL_w7).trans (pbF_w7 o)
  have pbL_w8 : w.heap.size < w8.heap.size := Nat.lt_of_lt_of_le pbL_w7 hb8.size
  have at0_w8 := (hb8.cell atL_w7).trans at0_w7
  have at1_w8 := (hb8.cell atL_w7).trans at1_w7
  have at2_w8 := (hb8.cell atL_w7).trans at2_w7
  have at3_w8 := (hb8.cell atL_w7).trans at3_w7
  have atL_w8 : w.heap.size + 1 < w8.heap.size := Nat.lt_of_lt_of_le atL_w7 hb8.size
  have rs0_w8 := (hb8.cell rsL_w7).trans rs0_w7
  have rs1_w8 := (hb8.cell rsL_w7).trans rs1_w7
  have rsF_w8 : ∀ o, w8.frozen? ⟨w.heap.size + 1 + 1, o, none⟩ = false := fun o => (hb8.frozen rsL_w7).trans (rsF_w7 o)
  have rsL_w8 : w.heap.size + 1 + 1 < w8.heap.size := Nat.lt_of_lt_of_le rsL_w7 hb8.size
  have oP_w8 := hidP (OwnG.later oP_w7.out hb8)
  have oB_w8 := hidP (OwnG.later oB_w7.out hb8)
  have acc_w8 := hidP (acc_w7.out.trans (hb8.mono acc_w7.out.size))
  clear pbF_w7 pb0_w7 pb1_w7 pbL_w7 at0_w7 at1_w7 at2_w7 at3_w7 atL_w7 rsF_w7 rs0_w7 rs1_w7 rsL_w7 oP_w7 oB_w7 acc_w7 hb8
  go_wp2_with fail
  refine (HBI.out _ a c b d oB_w8.out.row).mono ?_
  rintro e w9 ⟨a9, c9, rfl, _, hb9⟩
  have pb0_w9 := (hb9.cell pbL_w8).trans pb0_w8
  have pb1_w9 := (hb9.cell pbL_w8).trans pb1_w8
  have pbF_w9 : ∀ o, w9.frozen? ⟨w.heap.size, o, none⟩ = false := fun o => (hb9.frozen pbL_w8).trans (pbF_w8 o)
  have pbL_w9 : w.heap.size < w9.heap.size := Nat.lt_of_lt_of_le pbL_w8 hb9.size
  have at0_w9 := (hb9.cell atL_w8).trans at0_w8
  have at1_w9 := (hb9.cell atL_w8).trans at1_w8
  have at2_w9 := (hb9.cell atL_w8).trans at2_w8
  have at3_w9 := (hb9.cell atL_w8).trans at3_w8
  have atL_w9 : w.heap.size + 1 < w9.heap.size := Nat.lt_of_lt_of_le atL_w8 hb9.size
  have rs0_w9 := (hb9.cell rsL_w8).trans rs0_w8
  have rs1_w9 := (hb9.cell rsL_w8).trans rs1_w8
  have rsF_w9 : ∀ o, w9.frozen? ⟨w.heap.size + 1 + 1, o, none⟩ = false := fun o => (hb9.frozen rsL_w8).trans (rsF_w8 o)
  have rsL_w9 : w.heap.size + 1 + 1 < w9.heap.size := Nat.lt_of_lt_of_le rsL_w8 hb9.size
  have oP_w9 := hidP (OwnG.later oP_w8.out hb9)
  have oB_w9 := hidP (OwnG.later oB_w8.out hb9)
  have acc_w9 := hidP (acc_w8.out.trans (hb9.mono acc_w8.out.size))
  clear pbF_w8 pb0_w8 pb1_w8 pbL_w8 at0_w8 at1_w8 at2_w8 at3_w8 atL_w8 rsF_w8 rs0_w8 rs1_w8 rsL_w8 oP_w8 oB_w8 acc_w8 hb9
  generalize (fil bs pt).length = F at *
  go_wp2_with fail
  refine bodyPost_ret (v := .tuple #[.agg #[.slice a np c, .slice b nb d], .int .i64 6]) (by simp [results, Try.results23, go_sem, rs0_w9, rs1_w9]) rfl ⟨_, _, _, _, rfl, (OwnG.set2 oP_w9.out kL9).mono (Nat.le_of_lt UL9), (OwnG.set2 oB_w9.out kL9).mono (Nat.le_of_lt UL9), HNE.out, below_set2 acc_w9.out (by omega)⟩

set_option maxRecDepth 10000 in
set_option maxHeartbeats 4000000 in
theorem iDrop_e (pt : Pf) (g h : Nat) (np nb : Nat) (ps : List Pl) (bs : List Bk) (w : World) (hnp : np = ps.length) (hnb : nb = bs.length) (hP : RowG KPl w (some ⟨g, 0, none⟩) ps) (hK : RowG KBk w (some ⟨h, 0, none⟩) bs) (hl : np ≤ 1048576) (hl' : nb ≤ 1048576) (hst : ∀ q ∈ bs, q.t.size ≤ 9223372036854775807) (hr : planB ps bs = true) (hk : pt.pk = true) (i : Nat) (hi : i < np) (hp : plc pt ps = (i : Int)) (hu : (fil bs pt).length = 0) :
    Calls Try.prog 23 #[.agg #[.slice (some ⟨g, 0, none⟩) np np, .slice (some ⟨h, 0, none⟩) nb nb], .agg #[.bool pt.s, .int .i64 pt.H.toInt, .int .i64 pt.L.toInt, .int .i64 pt.b]] w fun e w' => ∃ a c b d, e = .returned (.tuple #[.agg #[.slice a (np - 1) c, .slice b nb d], .int .i64 (0)]) ∧ OwnG KPl 48 w' w.heap.size (.slice a (np - 1) c) (ps.eraseIdx i) ∧ OwnG KBk 56 w' w.heap.size (.slice b nb d) (bs) ∧ (∀ k, (Value.slice a (np - 1) c).ownBlock = some k → (Value.slice b nb d).ownBlock ≠ some k) ∧ Below w.heap.size w w' := by
  have HOw := hidP (fun W h' => ownPlan_any (some ⟨g, 0, none⟩) np np (some ⟨h, 0, none⟩) nb nb ps bs W hnp hnb (hP.later h') (hK.later h') hl hl')
  have HPO := hidP (fun W a c b d e1 e2 => iPlanOk_any a np c b nb d ps bs W hnp hnb e1 e2 (by omega) (by omega) hst)
  have HPk := hidP (iPrefixOk_any pt.s pt.H pt.L pt.b)
  change Hid (∀ w, Calls Try.prog 62 _ w fun e w' => e = .returned (.bool pt.pk) ∧ Below w.heap.size w w') at HPk
  have HPl := hidP (fun W a c b d e1 => placeOfPool_any pt a np c b nb d ps W hnp e1 (by omega))
  have HBI := hidP (fun W a c b d e2 => blocksIn_any pt a np c b nb d bs W hnb e2 hl')
  have HN := hidP (And.intro hnp hnb)
  clear hP hK hnp hnb hst
  rw [hr] at HPO
  rw [hk] at HPk
  rw [hp] at HPl
  rw [hu] at HBI
  have gi : decide ((i : Int) < 0) = false := decide_eq_false (by omega)
  have wi : IntKind.i64.wrap ((i : Int) + 1) = (i : Int) + 1 := by rw [IntKind.wrap_i64]; omega
  go_enter Try.func23, Try.ntmps23
  go_wp2_with fail
  have uF := frz2 w 32 (.slice (some ⟨g, 0, none⟩) np np) (.slice (some ⟨h, 0, none⟩) nb nb)
  obtain ⟨u0, u1⟩ := box2 (u := .slice (some ⟨g, 0, none⟩) np np) (v := .slice (some ⟨h, 0, none⟩) nb nb) w 32
  have uB := alloc_below w (.cells #[.slice (some ⟨g, 0, none⟩) np np, .slice (some ⟨h, 0, none⟩) nb nb] 32)
  have uL := alloc_lt w (.cells #[.slice (some ⟨g, 0, none⟩) np np, .slice (some ⟨h, 0, none⟩) nb nb] 32)
  have uS : (w.alloc (.cells #[.slice (some ⟨g, 0, none⟩) np np, .slice (some ⟨h, 0, none⟩) nb nb] 32)).heap.size = w.heap.size + 1 := by simp
  generalize w.alloc (.cells #[.slice (some ⟨g, 0, none⟩) np np, .slice (some ⟨h, 0, none⟩) nb nb] 32) = W1 at *
  obtain ⟨y0, y1, y2, y3⟩ := box4 (p := pt) W1 46
  have yB := alloc_below W1 (.cells #[.bool pt.s, .int .i64 pt.H.toInt, .int .i64 pt.L.toInt, .int .i64 pt.b] 46)
  have yL := alloc_lt W1 (.cells #[.bool pt.s, .int .i64 pt.H.toInt, .int .i64 pt.L.toInt, .int .i64 pt.b] 46)
  have yS : (W1.alloc (.cells #[.bool pt.s, .int .i64 pt.H.toInt, .int .i64 pt.L.toInt, .int .i64 pt.b] 46)).heap.size = W1.heap.size + 1 := by simp
  generalize W1.alloc (.cells #[.bool pt.s, .int .i64 pt.H.toInt, .int .i64 pt.L.toInt, .int .i64 pt.b] 46) = W2 at *
  rw [uS] at y0 y1 y2 y3 yL yS
  have kF := frz2 W2 32 (.slice none 0 0) (.slice none 0 0)
  obtain ⟨k0, k1⟩ := box2 (u := .slice none 0 0) (v := .slice none 0 0) W2 32
  have kB := alloc_below W2 (.cells #[.slice none 0 0, .slice none 0 0] 32)
  have kL := alloc_lt W2 (.cells #[.slice none 0 0, .slice none 0 0] 32)
  have kS : (W2.alloc (.cells #[.slice none 0 0, .slice none 0 0] 32)).heap.size = W2.heap.size + 1 := by simp
  generalize W2.alloc (.cells #[.slice none 0 0, .slice none 0 0] 32) = W3 at *
  rw [yS] at k0 k1 kL kS
  rw [yS] at kF
  have l0 : w.heap.size < W2.heap.size := by omega
  have l1 : w.heap.size + 1 < W2.heap.size := by omega
  have U0 := (kB.cell l0).trans ((yB.cell uL).trans u0)
  have U1 := (kB.cell l0).trans ((yB.cell uL).trans u1)
  have UF : ∀ o, W3.frozen? ⟨w.heap.size, o, none⟩ = false := fun o => (kB.frozen l0).trans ((yB.frozen uL).trans (uF o))
  have Y0 := (kB.cell l1).trans y0
  have Y1 := (kB.cell l1).trans y1
  have Y2 := (kB.cell l1).trans y2
  have Y3 := (kB.cell l1).trans y3
  have acc0 := hidP ((uB.trans (yB.mono uB.size)).trans (kB.mono (Nat.le_trans uB.size yB.size)))
  have UL : w.heap.size < W3.heap.size := by omega
  have YL : w.heap.size + 1 < W3.heap.size := by omega
  have kL3 : w.heap.size + 1 + 1 < W3.heap.size := by omega
  have UL9 := UL
  have kL9 := kL3
  clear uB yB kB uS yS kS u0 u1 y0 y1 y2 y3 uL yL kL uF l0 l1
  refine (HOw.out _ acc0.out).mono ?_
  rintro e w4 ⟨a, c, b, d, rfl, op, ob, hne, hb4⟩
  have pb0_w4 := (hb4.cell UL).trans U0
  have pb1_w4 := (hb4.cell UL).trans U1
  have pbF_w4 : ∀ o, w4.frozen? ⟨w.heap.size, o, none⟩ = false := fun o => (hb4.frozen UL).trans (UF o)
  have pbL_w4 : w.heap.size < w4.heap.size := Nat.lt_of_lt_of_le UL hb4.size
  have at0_w4 := (hb4.cell YL).trans Y0
  have at1_w4 := (hb4.cell YL).trans Y1
  have at2_w4 := (hb4.cell YL).trans Y2
  have at3_w4 := (hb4.cell YL).trans Y3
  have atL_w4 : w.heap.size + 1 < w4.heap.size := Nat.lt_of_lt_of_le YL hb4.size
  have rs0_w4 := (hb4.cell kL3).trans k0
  have rs1_w4 := (hb4.cell kL3).trans k1
  have rsF_w4 : ∀ o, w4.frozen? ⟨w.heap.size + 1 + 1, o, none⟩ = false := fun o => (hb4.frozen kL3).trans (kF o)
  have rsL_w4 : w.heap.size + 1 + 1 < w4.heap.size := Nat.lt_of_lt_of_le kL3 hb4.size
  have acc_w4 := hidP (acc0.out.trans (hb4.mono acc0.out.size))
  have oP_w4 := hidP op
  have oB_w4 := hidP ob
  have HNE := hidP hne
  clear UF U0 U1 UL Y0 Y1 Y2 Y3 YL kF k0 k1 kL3 acc0 hb4 op ob hne
  go_wp2_with fail
  have p0 : ((w4.setCell ⟨w.heap.size, 0, none⟩ (.slice a np c)).setCell ⟨w.heap.size, 1, none⟩ (.slice b nb d)).cell? ⟨w.heap.size, 0, none⟩ = some (.slice a np c) := by simp [go_sem, pb0_w4]
  have p1 : ((w4.setCell ⟨w.heap.size, 0, none⟩ (.slice a np c)).setCell ⟨w.heap.size, 1, none⟩ (.slice b nb d)).cell? ⟨w.heap.size, 1, none⟩ = some (.slice b nb d) := by simp [go_sem, pb1_w4]
  have pF : ∀ o, ((w4.setCell ⟨w.heap.size, 0, none⟩ (.slice a np c)).setCell ⟨w.heap.size, 1, none⟩ (.slice b nb d)).frozen? ⟨w.heap.size, o, none⟩ = false := fun o => by simp [go_sem, pbF_w4 o]
  have q0 : ((w4.setCell ⟨w.heap.size, 0, none⟩ (.slice a np c)).setCell ⟨w.heap.size, 1, none⟩ (.slice b nb d)).cell? ⟨w.heap.size + 1, 0, none⟩ = _ := cell_set2 at0_w4 (by omega)
  have q1 : ((w4.setCell ⟨w.heap.size, 0, none⟩ (.slice a np c)).setCell ⟨w.heap.size, 1, none⟩ (.slice b nb d)).cell? ⟨w.heap.size + 1, 1, none⟩ = _ := cell_set2 at1_w4 (by omega)
  have q2 : ((w4.setCell ⟨w.heap.size, 0, none⟩ (.slice a np c)).setCell ⟨w.heap.size, 1, none⟩ (.slice b nb d)).cell? ⟨w.heap.size + 1, 2, none⟩ = _ := cell_set2 at2_w4 (by omega)
  have q3 : ((w4.setCell ⟨w.heap.size, 0, none⟩ (.slice a np c)).setCell ⟨w.heap.size, 1, none⟩ (.slice b nb d)).cell? ⟨w.heap.size + 1, 3, none⟩ = _ := cell_set2 at3_w4 (by omega)
  have r0 : ((w4.setCell ⟨w.heap.size, 0, none⟩ (.slice a np c)).setCell ⟨w.heap.size, 1, none⟩ (.slice b nb d)).cell? ⟨w.heap.size + 1 + 1, 0, none⟩ = _ := cell_set2 rs0_w4 (by omega)
  have r1 : ((w4.setCell ⟨w.heap.size, 0, none⟩ (.slice a np c)).setCell ⟨w.heap.size, 1, none⟩ (.slice b nb d)).cell? ⟨w.heap.size + 1 + 1, 1, none⟩ = _ := cell_set2 rs1_w4 (by omega)
  have rF : ∀ o, ((w4.setCell ⟨w.heap.size, 0, none⟩ (.slice a np c)).setCell ⟨w.heap.size, 1, none⟩ (.slice b nb d)).frozen? ⟨w.heap.size + 1 + 1, o, none⟩ = false := fun o => frz_set2 (rsF_w4 o) (by omega)
  have oP5 : Hid (OwnG KPl 48 ((w4.setCell ⟨w.heap.size, 0, none⟩ (.slice a np c)).setCell ⟨w.heap.size, 1, none⟩ (.slice b nb d)) W3.heap.size (.slice a np c) ps) := hidP (OwnG.set2 oP_w4.out UL9)
  have oB5 : Hid (OwnG KBk 56 ((w4.setCell ⟨w.heap.size, 0, none⟩ (.slice a np c)).setCell ⟨w.heap.size, 1, none⟩ (.slice b nb d)) W3.heap.size (.slice b nb d) bs) := hidP (OwnG.set2 oB_w4.out UL9)
  have acc5 : Hid (Below w.heap.size w ((w4.setCell ⟨w.heap.size, 0, none⟩ (.slice a np c)).setCell ⟨w.heap.size, 1, none⟩ (.slice b nb d))) := hidP (below_set2 acc_w4.out (Nat.le_refl _))
  have sL5 : ((w4.setCell ⟨w.heap.size, 0, none⟩ (.slice a np c)).setCell ⟨w.heap.size, 1, none⟩ (.slice b nb d)).heap.size = w4.heap.size := by simp
  generalize ((w4.setCell ⟨w.heap.size, 0, none⟩ (.slice a np c)).setCell ⟨w.heap.size, 1, none⟩ (.slice b nb d)) = W5 at *
  have pL5 : w.heap.size < W5.heap.size := by have := pbL_w4; omega
  have qL5 : w.heap.size + 1 < W5.heap.size := by have := atL_w4; omega
  have rL5 : w.heap.size + 1 + 1 < W5.heap.size := by have := rsL_w4; omega
  clear pb0_w4 pb1_w4 pbL_w4 at0_w4 at1_w4 at2_w4 at3_w4 atL_w4 rs0_w4 rs1_w4 rsL_w4 pbF_w4 rsF_w4 oP_w4 oB_w4 acc_w4 sL5
  refine (HPO.out _ a c b d oP5.out.row oB5.out.row).mono ?_
  rintro e w6 ⟨rfl, hb6⟩
  have pb0_w6 := (hb6.cell pL5).trans p0
  have pb1_w6 := (hb6.cell pL5).trans p1
  have pbF_w6 : ∀ o, w6.frozen? ⟨w.heap.size, o, none⟩ = false := fun o => (hb6.frozen pL5).trans (pF o)
  have pbL_w6 : w.heap.size < w6.heap.size := Nat.lt_of_lt_of_le pL5 hb6.size
  have at0_w6 := (hb6.cell qL5).trans q0
  have at1_w6 := (hb6.cell qL5).trans q1
  have at2_w6 := (hb6.cell qL5).trans q2
  have at3_w6 := (hb6.cell qL5).trans q3
  have atL_w6 : w.heap.size + 1 < w6.heap.size := Nat.lt_of_lt_of_le qL5 hb6.size
  have rs0_w6 := (hb6.cell rL5).trans r0
  have rs1_w6 := (hb6.cell rL5).trans r1
  have rsF_w6 : ∀ o, w6.frozen? ⟨w.heap.size + 1 + 1, o, none⟩ = false := fun o => (hb6.frozen rL5).trans (rF o)
  have rsL_w6 : w.heap.size + 1 + 1 < w6.heap.size := Nat.lt_of_lt_of_le rL5 hb6.size
  have oP_w6 := hidP (OwnG.later oP5.out hb6)
  have oB_w6 := hidP (OwnG.later oB5.out hb6)
  have acc_w6 := hidP (acc5.out.trans (hb6.mono acc5.out.size))
  clear pF p0 p1 pL5 q0 q1 q2 q3 qL5 rF r0 r1 rL5 oP5 oB5 acc5 hb6
  go_wp2_with fail
  refine (HPk.out _).mono ?_
  rintro e w7 ⟨rfl, hb7⟩
  have pb0_w7 := (hb7.cell pbL_w6).trans pb0_w6
  have pb1_w7 := (hb7.cell pbL_w6).trans pb1_w6
  have pbF_w7 : ∀ o, w7.frozen? ⟨w.heap.size, o, none⟩ = false := fun o => (hb7.frozen pbL_w6).trans (pbF_w6 o)
  have pbL_w7 : w.heap.size < w7.heap.size := Nat.lt_of_lt_of_le pbL_w6 hb7.size
  have at0_w7 := (hb7.cell atL_w6).trans at0_w6
  have at1_w7 := (hb7.cell atL_w6).trans at1_w6
  have at2_w7 := (hb7.cell atL_w6).trans at2_w6
  have at3_w7 := (hb7.cell atL_w6).trans at3_w6
  have atL_w7 : w.heap.size + 1 < w7.heap.size := Nat.lt_of_lt_of_le atL_w6 hb7.size
  have rs0_w7 := (hb7.cell rsL_w6).trans rs0_w6
  have rs1_w7 := (hb7.cell rsL_w6).trans rs1_w6
  have rsF_w7 : ∀ o, w7.frozen? ⟨w.heap.size + 1 + 1, o, none⟩ = false := fun o => (hb7.frozen rsL_w6).trans (rsF_w6 o)
  have rsL_w7 : w.heap.size + 1 + 1 < w7.heap.size := Nat.lt_of_lt_of_le rsL_w6 hb7.size
  have oP_w7 := hidP (OwnG.later oP_w6.out hb7)
  have oB_w7 := hidP (OwnG.later oB_w6.out hb7)
  have acc_w7 := hidP (acc_w6.out.trans (hb7.mono acc_w6.out.size))
  clear pbF_w6 pb0_w6 pb1_w6 pbL_w6 at0_w6 at1_w6 at2_w6 at3_w6 atL_w6 rsF_w6 rs0_w6 rs1_w6 rsL_w6 oP_w6 oB_w6 acc_w6 hb7
  go_wp2_with fail
  refine (HPl.out _ a c b d oP_w7.out.row).mono ?_
  rintro e w8 ⟨rfl, hb8⟩
  have pb0_w8 := (hb8.cell pbL_w7).trans pb0_w7
  have pb1_w8 := (hb8.cell pbL_w7).trans pb1_w7
  have pbF_w8 : ∀ o, w8.frozen? ⟨w.heap.size, o, none⟩ = false := fun o => (hb8.frozen pbL_w7).trans (pbF_w7 o)
  have pbL_w8 : w.heap.size < w8.heap.size := Nat.lt_of_lt_of_le pbL_w7 hb8.size
  have at0_w8 := (hb8.cell atL_w7).trans at0_w7
  have at1_w8 := (hb8.cell atL_w7).trans at1_w7
  have at2_w8 := (hb8.cell atL_w7).trans at2_w7
  have at3_w8 := (hb8.cell atL_w7).trans at3_w7
  have atL_w8 : w.heap.size + 1 < w8.heap.size := Nat.lt_of_lt_of_le atL_w7 hb8.size
  have rs0_w8 := (hb8.cell rsL_w7).trans rs0_w7
  have rs1_w8 := (hb8.cell rsL_w7).trans rs1_w7
  have rsF_w8 : ∀ o, w8.frozen? ⟨w.heap.size + 1 + 1, o, none⟩ = false := fun o => (hb8.frozen rsL_w7).trans (rsF_w7 o)
  have rsL_w8 : w.heap.size + 1 + 1 < w8.heap.size := Nat.lt_of_lt_of_le rsL_w7 hb8.size
  have oP_w8 := hidP (OwnG.later oP_w7.out hb8)
  have oB_w8 := hidP (OwnG.later oB_w7.out hb8)
  have acc_w8 := hidP (acc_w7.out.trans (hb8.mono acc_w7.out.size))
  clear pbF_w7 pb0_w7 pb1_w7 pbL_w7 at0_w7 at1_w7 at2_w7 at3_w7 atL_w7 rsF_w7 rs0_w7 rs1_w7 rsL_w7 oP_w7 oB_w7 acc_w7 hb8
  go_wp2_with fail
  refine (HBI.out _ a c b d oB_w8.out.row).mono ?_
  rintro e w9 ⟨a9, c9, rfl, _, hb9⟩
  have pb0_w9 := (hb9.cell pbL_w8).trans pb0_w8
  have pb1_w9 := (hb9.cell pbL_w8).trans pb1_w8
  have pbF_w9 : ∀ o, w9.frozen? ⟨w.heap.size, o, none⟩ = false := fun o => (hb9.frozen pbL_w8).trans (pbF_w8 o)
  have pbL_w9 : w.heap.size < w9.heap.size := Nat.lt_of_lt_of_le pbL_w8 hb9.size
  have at0_w9 := (hb9.cell atL_w8).trans at0_w8
  have at1_w9 := (hb9.cell atL_w8).trans at1_w8
  have at2_w9 := (hb9.cell atL_w8).trans at2_w8
  have at3_w9 := (hb9.cell atL_w8).trans at3_w8
  have atL_w9 : w.heap.size + 1 < w9.heap.size := Nat.lt_of_lt_of_le atL_w8 hb9.size
  have rs0_w9 := (hb9.cell rsL_w8).trans rs0_w8
  have rs1_w9 := (hb9.cell rsL_w8).trans rs1_w8
  have rsF_w9 : ∀ o, w9.frozen? ⟨w.heap.size + 1 + 1, o, none⟩ = false := fun o => (hb9.frozen rsL_w8).trans (rsF_w8 o)
  have rsL_w9 : w.heap.size + 1 + 1 < w9.heap.size := Nat.lt_of_lt_of_le rsL_w8 hb9.size
  have oP_w9 := hidP (OwnG.later oP_w8.out hb9)
  have oB_w9 := hidP (OwnG.later oB_w8.out hb9)
  have acc_w9 := hidP (acc_w8.out.trans (hb9.mono acc_w8.out.size))
  clear pbF_w8 pb0_w8 pb1_w8 pbL_w8 at0_w8 at1_w8 at2_w8 at3_w8 atL_w8 rsF_w8 rs0_w8 rs1_w8 rsL_w8 oP_w8 oB_w8 acc_w8 hb9
  obtain ⟨gg, rfl⟩ : ∃ gg, a = some ⟨gg, 0, none⟩ := by
    rcases oP_w9.out.2 with ⟨hv, _⟩ | ⟨gg, cap', cur, hv, _⟩
    · simp at hv; omega
    · simp at hv; exact ⟨gg, hv.1⟩
  go_wp2_with fail
  refine (delete_any gg np c W3.heap.size i ps w9 HN.out.1 hi hl oP_w9.out).mono ?_
  rintro e w10 ⟨rfl, o10, g10⟩
  have lg := OwnG.lt oP_w9.out gg rfl
  have pb0_w10 := (World.cell?_of_block (g10.block (w.heap.size) pbL_w9 (fun e => by simp at e; omega))).trans pb0_w9
  have pb1_w10 := (World.cell?_of_block (g10.block (w.heap.size) pbL_w9 (fun e => by simp at e; omega))).trans pb1_w9
  have pbF_w10 : ∀ o, w10.frozen? ⟨w.heap.size, o, none⟩ = false := fun o => (World.frozen?_of_block (g10.block (w.heap.size) pbL_w9 (fun e => by simp at e; omega))).trans (pbF_w9 o)
  have pbL_w10 : w.heap.size < w10.heap.size := Nat.lt_of_lt_of_le pbL_w9 g10.size
  have at0_w10 := (World.cell?_of_block (g10.block (w.heap.size + 1) atL_w9 (fun e => by simp at e; omega))).trans at0_w9
  have at1_w10 := (World.cell?_of_block (g10.block (w.heap.size + 1) atL_w9 (fun e => by simp at e; omega))).trans at1_w9
  have at2_w10 := (World.cell?_of_block (g10.block (w.heap.size + 1) atL_w9 (fun e => by simp at e; omega))).trans at2_w9
  have at3_w10 := (World.cell?_of_block (g10.block (w.heap.size + 1) atL_w9 (fun e => by simp at e; omega))).trans at3_w9
  have atL_w10 : w.heap.size + 1 < w10.heap.size := Nat.lt_of_lt_of_le atL_w9 g10.size
  have rs0_w10 := (World.cell?_of_block (g10.block (w.heap.size + 1 + 1) rsL_w9 (fun e => by simp at e; omega))).trans rs0_w9
  have rs1_w10 := (World.cell?_of_block (g10.block (w.heap.size + 1 + 1) rsL_w9 (fun e => by simp at e; omega))).trans rs1_w9
  have rsF_w10 : ∀ o, w10.frozen? ⟨w.heap.size + 1 + 1, o, none⟩ = false := fun o => (World.frozen?_of_block (g10.block (w.heap.size + 1 + 1) rsL_w9 (fun e => by simp at e; omega))).trans (rsF_w9 o)
  have rsL_w10 : w.heap.size + 1 + 1 < w10.heap.size := Nat.lt_of_lt_of_le rsL_w9 g10.size
  have oB_w10 := hidP (OwnG.grown oB_w9.out g10 (fun j hj e => HNE.out gg rfl (by rw [hj]; exact e.symm)))
  have oP_w10 := hidP o10
  have acc_w10 := hidP (acc_w9.out.grown g10 acc_w9.out.size (fun j e => by simp at e; omega))
  have LG := hidP lg
  clear pb0_w9 pb1_w9 pbL_w9 at0_w9 at1_w9 at2_w9 at3_w9 atL_w9 rs0_w9 rs1_w9 rsL_w9 pbF_w9 rsF_w9 oP_w9 oB_w9 acc_w9 o10 g10 lg
  go_wp2_with fail
  refine bodyPost_ret (v := .tuple #[.agg #[.slice (some ⟨gg, 0, none⟩) (np - 1) c, .slice b nb d], .int .i64 0]) (by simp [results, Try.results23, go_sem, rs0_w10, rs1_w10]) rfl ⟨_, _, _, _, rfl, (OwnG.set2 (OwnG.set1 oP_w10.out UL9) kL9).mono (Nat.le_of_lt UL9), (OwnG.set2 (OwnG.set1 oB_w10.out UL9) kL9).mono (Nat.le_of_lt UL9), (fun k h1 h2 => HNE.out k h1 h2), below_set2 (below_set1 acc_w10.out (Nat.le_refl _)) (by omega)⟩

end Go.Proofs.Ythbpehpnikknlaa

namespace Go.Proofs.Ythbpehpnikknlaa
open Go.RowKit

theorem RowG.takeG {α : Type} {K : Kd α} {w : World} {a : Option Addr} {ps : List α} (h : RowG K w a ps) (i : Nat) : RowG K w a (ps.take i) := fun j hj => by
  rw [List.length_take] at hj
  obtain ⟨p, o, q, ha, hp, hq, c⟩ := h j (by omega)
  exact ⟨p, o, q, ha, hp, by rw [List.getElem?_take, if_pos (by omega)]; exact hq, c⟩
theorem RowG.fromG {α : Type} {K : Kd α} {w : World} {g : Nat} {ps : List α} (h : RowG K w (some ⟨g, 0, none⟩) ps) (j : Nat) : RowG K w (some ⟨g, j * K.k, none⟩) (ps.drop j) := fun i hi => by
  rw [List.length_drop] at hi
  obtain ⟨p, o, q, ha, hp, hq, c⟩ := h (j + i) (by omega)
  simp only [Option.some.injEq, Addr.mk.injEq, and_true] at ha
  obtain ⟨rfl, rfl⟩ := ha
  refine ⟨_, _, q, rfl, hp, by rw [List.getElem?_drop]; exact hq, fun x v hv => ?_⟩
  have := c x v hv
  rw [Nat.zero_add, Nat.add_mul] at this
  exact this

set_option maxRecDepth 10000 in
set_option maxHeartbeats 4000000 in
theorem sDrop_a (pt : Pf) (g h : Nat) (np nb : Nat) (ps : List Pl) (bs : List Bk) (w : World) (hnp : np = ps.length) (hnb : nb = bs.length) (hP : RowG KPl w (some ⟨g, 0, none⟩) ps) (hK : RowG KBk w (some ⟨h, 0, none⟩) bs) (hl : np ≤ 1048576) (hl' : nb ≤ 1048576) (hst : ∀ q ∈ bs, q.t.size ≤ 9223372036854775807) (hr : planB ps bs = false) :
    Calls Try.prog 21 #[.agg #[.slice (some ⟨g, 0, none⟩) np np, .slice (some ⟨h, 0, none⟩) nb nb], .agg #[.bool pt.s, .int .i64 pt.H.toInt, .int .i64 pt.L.toInt, .int .i64 pt.b]] w fun e w' => ∃ a c b d, e = .returned (.tuple #[.agg #[.slice a np c, .slice b nb d], .int .i64 (1)]) ∧ OwnG KPl 48 w' w.heap.size (.slice a np c) (ps) ∧ OwnG KBk 56 w' w.heap.size (.slice b nb d) (bs) ∧ (∀ k, (Value.slice a np c).ownBlock = some k → (Value.slice b nb d).ownBlock ≠ some k) ∧ Below w.heap.size w w' := by
  have HOw := hidP (fun W h' => l5Copy_any (some ⟨g, 0, none⟩) np np (some ⟨h, 0, none⟩) nb nb ps bs W hnp hnb (hP.later h') (hK.later h') (fun e => by cases e) (fun e => by cases e) hl hl')
  have HPO := hidP (fun W h' => sPlanOk_any (some ⟨g, 0, none⟩) np np (some ⟨h, 0, none⟩) nb nb ps bs W hnp hnb (hP.later h') (hK.later h') (by omega) (by omega) hst)
  have HPk := hidP (sPrefixOk_any pt.s pt.H pt.L pt.b)
  change Hid (∀ w, Calls Try.prog 41 _ w fun e w' => e = .returned (.bool pt.pk) ∧ Below w.heap.size w w') at HPk
  have HBI := hidP (fun W h' => l5Blocks_any pt (some ⟨g, 0, none⟩) np np (some ⟨h, 0, none⟩) nb nb bs W hnb (hK.later h') hl')
  have HN := hidP (And.intro hnp hnb)
  have HRP := hidP hP
  clear hP hK hnp hnb hst
  rw [hr] at HPO
  go_enter Try.func21, Try.ntmps21
  go_wp2_with fail
  have uF := frz2 w 32 (.slice (some ⟨g, 0, none⟩) np np) (.slice (some ⟨h, 0, none⟩) nb nb)
  obtain ⟨u0, u1⟩ := box2 (u := .slice (some ⟨g, 0, none⟩) np np) (v := .slice (some ⟨h, 0, none⟩) nb nb) w 32
  have uB := alloc_below w (.cells #[.slice (some ⟨g, 0, none⟩) np np, .slice (some ⟨h, 0, none⟩) nb nb] 32)
  have uL := alloc_lt w (.cells #[.slice (some ⟨g, 0, none⟩) np np, .slice (some ⟨h, 0, none⟩) nb nb] 32)
  have uS : (w.alloc (.cells #[.slice (some ⟨g, 0, none⟩) np np, .slice (some ⟨h, 0, none⟩) nb nb] 32)).heap.size = w.heap.size + 1 := by simp
  generalize w.alloc (.cells #[.slice (some ⟨g, 0, none⟩) np np, .slice (some ⟨h, 0, none⟩) nb nb] 32) = W1 at *
  obtain ⟨y0, y1, y2, y3⟩ := box4 (p := pt) W1 46
  have yB := alloc_below W1 (.cells #[.bool pt.s, .int .i64 pt.H.toInt, .int .i64 pt.L.toInt, .int .i64 pt.b] 46)
  have yL := alloc_lt W1 (.cells #[.bool pt.s, .int .i64 pt.H.toInt, .int .i64 pt.L.toInt, .int .i64 pt.b] 46)
  have yS : (W1.alloc (.cells #[.bool pt.s, .int .i64 pt.H.toInt, .int .i64 pt.L.toInt, .int .i64 pt.b] 46)).heap.size = W1.heap.size + 1 := by simp
  generalize W1.alloc (.cells #[.bool pt.s, .int .i64 pt.H.toInt, .int .i64 pt.L.toInt, .int .i64 pt.b] 46) = W2 at *
  rw [uS] at y0 y1 y2 y3 yL yS
  have kF := frz2 W2 32 (.slice none 0 0) (.slice none 0 0)
  obtain ⟨k0, k1⟩ := box2 (u := .slice none 0 0) (v := .slice none 0 0) W2 32
  have kB := alloc_below W2 (.cells #[.slice none 0 0, .slice none 0 0] 32)
  have kL := alloc_lt W2 (.cells #[.slice none 0 0, .slice none 0 0] 32)
  have kS : (W2.alloc (.cells #[.slice none 0 0, .slice none 0 0] 32)).heap.size = W2.heap.size + 1 := by simp
  generalize W2.alloc (.cells #[.slice none 0 0, .slice none 0 0] 32) = W3 at *
  rw [yS] at k0 k1 kL kS
  rw [yS] at kF
  have l0 : w.heap.size < W2.heap.size := by omega
  have l1 : w.heap.size + 1 < W2.heap.size := by omega
  have U0 := (kB.cell l0).trans ((yB.cell uL).trans u0)
  have U1 := (kB.cell l0).trans ((yB.cell uL).trans u1)
  have UF : ∀ o, W3.frozen? ⟨w.heap.size, o, none⟩ = false := fun o => (kB.frozen l0).trans ((yB.frozen uL).trans (uF o))
  have Y0 := (kB.cell l1).trans y0
  have Y1 := (kB.cell l1).trans y1
  have Y2 := (kB.cell l1).trans y2
  have Y3 := (kB.cell l1).trans y3
  have acc0 := hidP ((uB.trans (yB.mono uB.size)).trans (kB.mono (Nat.le_trans uB.size yB.size)))
  have UL : w.heap.size < W3.heap.size := by omega
  have YL : w.heap.size + 1 < W3.heap.size := by omega
  have kL3 : w.heap.size + 1 + 1 < W3.heap.size := by omega
  have UL9 := UL
  have kL9 := kL3
  clear uB yB kB uS yS kS u0 u1 y0 y1 y2 y3 uL yL kL uF l0 l1
  have U0c := U0
  have ac3_W3 := hidP (Below.refl W3.heap.size W3)
  refine (HOw.out _ acc0.out).mono ?_
  rintro e w4 ⟨a, c, b, d, rfl, op, ob, hne, hb4⟩
  have pb0_w4 := (hb4.cell UL).trans U0
  have pb1_w4 := (hb4.cell UL).trans U1
  have pbF_w4 : ∀ o, w4.frozen? ⟨w.heap.size, o, none⟩ = false := fun o => (hb4.frozen UL).trans (UF o)
  have pbL_w4 : w.heap.size < w4.heap.size := Nat.lt_of_lt_of_le UL hb4.size
  have at0_w4 := (hb4.cell YL).trans Y0
  have at1_w4 := (hb4.cell YL).trans Y1
  have at2_w4 := (hb4.cell YL).trans Y2
  have at3_w4 := (hb4.cell YL).trans Y3
  have atL_w4 : w.heap.size + 1 < w4.heap.size := Nat.lt_of_lt_of_le YL hb4.size
  have rs0_w4 := (hb4.cell kL3).trans k0
  have rs1_w4 := (hb4.cell kL3).trans k1
  have rsF_w4 : ∀ o, w4.frozen? ⟨w.heap.size + 1 + 1, o, none⟩ = false := fun o => (hb4.frozen kL3).trans (kF o)
  have rsL_w4 : w.heap.size + 1 + 1 < w4.heap.size := Nat.lt_of_lt_of_le kL3 hb4.size
  have acc_w4 := hidP (acc0.out.trans (hb4.mono acc0.out.size))
  have ac3_w4 := hidP (ac3_W3.out.trans (hb4.mono ac3_W3.out.size))
  have w43c := hb4.size
  have HLB4 := hidP (fun j hj => (OwnG.lt ob j hj).2)
  have oP_w4 := hidP op
  have oB_w4 := hidP ob
  have HNE := hidP hne
  clear UF U0 U1 UL Y0 Y1 Y2 Y3 YL kF k0 k1 kL3 acc0 ac3_W3 hb4 op ob hne
  go_wp2_with fail
  have oF := frz2 w4 32 (.slice a np c) (.slice b nb d)
  obtain ⟨o0, o1⟩ := box2 (u := .slice a np c) (v := .slice b nb d) w4 32
  have oB := alloc_below w4 (.cells #[.slice a np c, .slice b nb d] 32)
  have oL := alloc_lt w4 (.cells #[.slice a np c, .slice b nb d] 32)
  have oS : (w4.alloc (.cells #[.slice a np c, .slice b nb d] 32)).heap.size = w4.heap.size + 1 := by simp
  generalize w4.alloc (.cells #[.slice a np c, .slice b nb d] 32) = W5 at *
  have hb5 := oB
  have pb0_W5 := (hb5.cell pbL_w4).trans pb0_w4
  have pb1_W5 := (hb5.cell pbL_w4).trans pb1_w4
  have pbF_W5 : ∀ o, W5.frozen? ⟨w.heap.size, o, none⟩ = false := fun o => (hb5.frozen pbL_w4).trans (pbF_w4 o)
  have pbL_W5 : w.heap.size < W5.heap.size := Nat.lt_of_lt_of_le pbL_w4 hb5.size
  have at0_W5 := (hb5.cell atL_w4).trans at0_w4
  have at1_W5 := (hb5.cell atL_w4).trans at1_w4
  have at2_W5 := (hb5.cell atL_w4).trans at2_w4
  have at3_W5 := (hb5.cell atL_w4).trans at3_w4
  have atL_W5 : w.heap.size + 1 < W5.heap.size := Nat.lt_of_lt_of_le atL_w4 hb5.size
  have rs0_W5 := (hb5.cell rsL_w4).trans rs0_w4
  have rs1_W5 := (hb5.cell rsL_w4).trans rs1_w4
  have rsF_W5 : ∀ o, W5.frozen? ⟨w.heap.size + 1 + 1, o, none⟩ = false := fun o => (hb5.frozen rsL_w4).trans (rsF_w4 o)
  have rsL_W5 : w.heap.size + 1 + 1 < W5.heap.size := Nat.lt_of_lt_of_le rsL_w4 hb5.size
  have oP_W5 := hidP (OwnG.later oP_w4.out hb5)
  have oB_W5 := hidP (OwnG.later oB_w4.out hb5)
  have acc_W5 := hidP (acc_w4.out.trans (hb5.mono acc_w4.out.size))
  have ac3_W5 := hidP (ac3_w4.out.trans (hb5.mono ac3_w4.out.size))
  clear pbF_w4 pb0_w4 pb1_w4 pbL_w4 at0_w4 at1_w4 at2_w4 at3_w4 atL_w4 rsF_w4 rs0_w4 rs1_w4 rsL_w4 oP_w4 oB_w4 acc_w4 ac3_w4 hb5 oB oS
  refine (HPO.out _ acc_W5.out).mono ?_
  rintro e w6 ⟨rfl, hb6⟩
  have pb0_w6 := (hb6.cell pbL_W5).trans pb0_W5
  have pb1_w6 := (hb6.cell pbL_W5).trans pb1_W5
  have pbF_w6 : ∀ o, w6.frozen? ⟨w.heap.size, o, none⟩ = false := fun o => (hb6.frozen pbL_W5).trans (pbF_W5 o)
  have pbL_w6 : w.heap.size < w6.heap.size := Nat.lt_of_lt_of_le pbL_W5 hb6.size
  have at0_w6 := (hb6.cell atL_W5).trans at0_W5
  have at1_w6 := (hb6.cell atL_W5).trans at1_W5
  have at2_w6 := (hb6.cell atL_W5).trans at2_W5
  have at3_w6 := (hb6.cell atL_W5).trans at3_W5
  have atL_w6 : w.heap.size + 1 < w6.heap.size := Nat.lt_of_lt_of_le atL_W5 hb6.size
  have rs0_w6 := (hb6.cell rsL_W5).trans rs0_W5
  have rs1_w6 := (hb6.cell rsL_W5).trans rs1_W5
  have rsF_w6 : ∀ o, w6.frozen? ⟨w.heap.size + 1 + 1, o, none⟩ = false := fun o => (hb6.frozen rsL_W5).trans (rsF_W5 o)
  have rsL_w6 : w.heap.size + 1 + 1 < w6.heap.size := Nat.lt_of_lt_of_le rsL_W5 hb6.size
  have ot0_w6 := (hb6.cell oL).trans o0
  have ot1_w6 := (hb6.cell oL).trans o1
  have otF_w6 : ∀ o, w6.frozen? ⟨w4.heap.size, o, none⟩ = false := fun o => (hb6.frozen oL).trans (oF o)
  have otL_w6 : w4.heap.size < w6.heap.size := Nat.lt_of_lt_of_le oL hb6.size
  have oP_w6 := hidP (OwnG.later oP_W5.out hb6)
  have oB_w6 := hidP (OwnG.later oB_W5.out hb6)
  have acc_w6 := hidP (acc_W5.out.trans (hb6.mono acc_W5.out.size))
  have ac3_w6 := hidP (ac3_W5.out.trans (hb6.mono ac3_W5.out.size))
  clear pbF_W5 pb0_W5 pb1_W5 pbL_W5 at0_W5 at1_W5 at2_W5 at3_W5 atL_W5 rsF_W5 rs0_W5 rs1_W5 rsL_W5 oF o0 o1 oL oP_W5 oB_W5 acc_W5 ac3_W5 hb6
  go_wp2_with fail
  refine bodyPost_ret (v := .tuple #[.agg #[.slice a np c, .slice b nb d], .int .i64 1]) (by simp [results, Try.results21, go_sem, rs0_w6, rs1_w6]) rfl ⟨_, _, _, _, rfl, (OwnG.set2 oP_w6.out kL9).mono (Nat.le_of_lt UL9), (OwnG.set2 oB_w6.out kL9).mono (Nat.le_of_lt UL9), HNE.out, below_set2 acc_w6.out (by omega)⟩

set_option maxRecDepth 10000 in
set_option maxHeartbeats 4000000 in
theorem sDrop_b (pt : Pf) (g h : Nat) (np nb : Nat) (ps : List Pl) (bs : List Bk) (w : World) (hnp : np = ps.length) (hnb : nb = bs.length) (hP : RowG KPl w (some ⟨g, 0, none⟩) ps) (hK : RowG KBk w (some ⟨h, 0, none⟩) bs) (hl : np ≤ 1048576) (hl' : nb ≤ 1048576) (hst : ∀ q ∈ bs, q.t.size ≤ 9223372036854775807) (hr : planB ps bs = true) (hk : pt.pk = false) :
    Calls Try.prog 21 #[.agg #[.slice (some ⟨g, 0, none⟩) np np, .slice (some ⟨h, 0, none⟩) nb nb], .agg #[.bool pt.s, .int .i64 pt.H.toInt, .int .i64 pt.L.toInt, .int .i64 pt.b]] w fun e w' => ∃ a c b d, e = .returned (.tuple #[.agg #[.slice a np c, .slice b nb d], .int .i64 (1)]) ∧ OwnG KPl 48 w' w.heap.size (.slice a np c) (ps) ∧ OwnG KBk 56 w' w.heap.size (.slice b nb d) (bs) ∧ (∀ k, (Value.slice a np c).ownBlock = some k → (Value.slice b nb d).ownBlock ≠ some k) ∧ Below w.heap.size w w' := by
  have HOw := hidP (fun W h' => l5Copy_any (some ⟨g, 0, none⟩) np np (some ⟨h, 0, none⟩) nb nb ps bs W hnp hnb (hP.later h') (hK.later h') (fun e => by cases e) (fun e => by cases e) hl hl')
  have HPO := hidP (fun W h' => sPlanOk_any (some ⟨g, 0, none⟩) np np (some ⟨h, 0, none⟩) nb nb ps bs W hnp hnb (hP.later h') (hK.later h') (by omega) (by omega) hst)
  have HPk := hidP (sPrefixOk_any pt.s pt.H pt.L pt.b)
  change Hid (∀ w, Calls Try.prog 41 _ w fun e w' => e = .returned (.bool pt.pk) ∧ Below w.heap.size w w') at HPk
  have HBI := hidP (fun W h' => l5Blocks_any pt (some ⟨g, 0, none⟩) np np (some ⟨h, 0, none⟩) nb nb bs W hnb (hK.later h') hl')
  have HN := hidP (And.intro hnp hnb)
  have HRP := hidP hP
  clear hP hK hnp hnb hst
  rw [hr] at HPO
  rw [hk] at HPk
  go_enter Try.func21, Try.ntmps21
  go_wp2_with fail
  have uF := frz2 w 32 (.slice (some ⟨g, 0, none⟩) np np) (.slice (some ⟨h, 0, none⟩) nb nb)
  obtain ⟨u0, u1⟩ := box2 (u := .slice (some ⟨g, 0, none⟩) np np) (v := .slice (some ⟨h, 0, none⟩) nb nb) w 32
  have uB := alloc_below w (.cells #[.slice (some ⟨g, 0, none⟩) np np, .slice (some ⟨h, 0, none⟩) nb nb] 32)
  have uL := alloc_lt w (.cells #[.slice (some ⟨g, 0, none⟩) np np, .slice (some ⟨h, 0, none⟩) nb nb] 32)
  have uS : (w.alloc (.cells #[.slice (some ⟨g, 0, none⟩) np np, .slice (some ⟨h, 0, none⟩) nb nb] 32)).heap.size = w.heap.size + 1 := by simp
  generalize w.alloc (.cells #[.slice (some ⟨g, 0, none⟩) np np, .slice (some ⟨h, 0, none⟩) nb nb] 32) = W1 at *
  obtain ⟨y0, y1, y2, y3⟩ := box4 (p := pt) W1 46
  have yB := alloc_below W1 (.cells #[.bool pt.s, .int .i64 pt.H.toInt, .int .i64 pt.L.toInt, .int .i64 pt.b] 46)
  have yL := alloc_lt W1 (.cells #[.bool pt.s, .int .i64 pt.H.toInt, .int .i64 pt.L.toInt, .int .i64 pt.b] 46)
  have yS : (W1.alloc (.cells #[.bool pt.s, .int .i64 pt.H.toInt, .int .i64 pt.L.toInt, .int .i64 pt.b] 46)).heap.size = W1.heap.size + 1 := by simp
  generalize W1.alloc (.cells #[.bool pt.s, .int .i64 pt.H.toInt, .int .i64 pt.L.toInt, .int .i64 pt.b] 46) = W2 at *
  rw [uS] at y0 y1 y2 y3 yL yS
  have kF := frz2 W2 32 (.slice none 0 0) (.slice none 0 0)
  obtain ⟨k0, k1⟩ := box2 (u := .slice none 0 0) (v := .slice none 0 0) W2 32
  have kB := alloc_below W2 (.cells #[.slice none 0 0, .slice none 0 0] 32)
  have kL := alloc_lt W2 (.cells #[.slice none 0 0, .slice none 0 0] 32)
  have kS : (W2.alloc (.cells #[.slice none 0 0, .slice none 0 0] 32)).heap.size = W2.heap.size + 1 := by simp
  generalize W2.alloc (.cells #[.slice none 0 0, .slice none 0 0] 32) = W3 at *
  rw [yS] at k0 k1 kL kS
  rw [yS] at kF
  have l0 : w.heap.size < W2.heap.size := by omega
  have l1 : w.heap.size + 1 < W2.heap.size := by omega
  have U0 := (kB.cell l0).trans ((yB.cell uL).trans u0)
  have U1 := (kB.cell l0).trans ((yB.cell uL).trans u1)
  have UF : ∀ o, W3.frozen? ⟨w.heap.size, o, none⟩ = false := fun o => (kB.frozen l0).trans ((yB.frozen uL).trans (uF o))
  have Y0 := (kB.cell l1).trans y0
  have Y1 := (kB.cell l1).trans y1
  have Y2 := (kB.cell l1).trans y2
  have Y3 := (kB.cell l1).trans y3
  have acc0 := hidP ((uB.trans (yB.mono uB.size)).trans (kB.mono (Nat.le_trans uB.size yB.size)))
  have UL : w.heap.size < W3.heap.size := by omega
  have YL : w.heap.size + 1 < W3.heap.size := by omega
  have kL3 : w.heap.size + 1 + 1 < W3.heap.size := by omega
  have UL9 := UL
  have kL9 := kL3
  clear uB yB kB uS yS kS u0 u1 y0 y1 y2 y3 uL yL kL uF l0 l1
  have U0c := U0
  have ac3_W3 := hidP (Below.refl W3.heap.size W3)
  refine (HOw.out _ acc0.out).mono ?_
  rintro e w4 ⟨a, c, b, d, rfl, op, ob, hne, hb4⟩
  have pb0_w4 := (hb4.cell UL).trans U0
  have pb1_w4 := (hb4.cell UL).trans U1
  have pbF_w4 : ∀ o, w4.frozen? ⟨w.heap.size, o, none⟩ = false := fun o => (hb4.frozen UL).trans (UF o)
  have pbL_w4 : w.heap.size < w4.heap.size := Nat.lt_of_lt_of_le UL hb4.size
  have at0_w4 := (hb4.cell YL).trans Y0
  have at1_w4 := (hb4.cell YL).trans Y1
  have at2_w4 := (hb4.cell YL).trans Y2
  have at3_w4 := (hb4.cell YL).trans Y3
  have atL_w4 : w.heap.size + 1 < w4.heap.size := Nat.lt_of_lt_of_le YL hb4.size
  have rs0_w4 := (hb4.cell kL3).trans k0
  have rs1_w4 := (hb4.cell kL3).trans k1
  have rsF_w4 : ∀ o, w4.frozen? ⟨w.heap.size + 1 + 1, o, none⟩ = false := fun o => (hb4.frozen kL3).trans (kF o)
  have rsL_w4 : w.heap.size + 1 + 1 < w4.heap.size := Nat.lt_of_lt_of_le kL3 hb4.size
  have acc_w4 := hidP (acc0.out.trans (hb4.mono acc0.out.size))
  have ac3_w4 := hidP (ac3_W3.out.trans (hb4.mono ac3_W3.out.size))
  have w43c := hb4.size
  have HLB4 := hidP (fun j hj => (OwnG.lt ob j hj).2)
  have oP_w4 := hidP op
  have oB_w4 := hidP ob
  have HNE := hidP hne
  clear UF U0 U1 UL Y0 Y1 Y2 Y3 YL kF k0 k1 kL3 acc0 ac3_W3 hb4 op ob hne
  go_wp2_with fail
  have oF := frz2 w4 32 (.slice a np c) (.slice b nb d)
  obtain ⟨o0, o1⟩ := box2 (u := .slice a np c) (v := .slice b nb d) w4 32
  have oB := alloc_below w4 (.cells #[.slice a np c, .slice b nb d] 32)
  have oL := alloc_lt w4 (.cells #[.slice a np c, .slice b nb d] 32)
  have oS : (w4.alloc (.cells #[.slice a np c, .slice b nb d] 32)).heap.size = w4.heap.size + 1 := by simp
  generalize w4.alloc (.cells #[.slice a np c, .slice b nb d] 32) = W5 at *
  have hb5 := oB
  have pb0_W5 := (hb5.cell pbL_w4).trans pb0_w4
  have pb1_W5 := (hb5.cell pbL_w4).trans pb1_w4
  have pbF_W5 : ∀ o, W5.frozen? ⟨w.heap.size, o, none⟩ = false := fun o => (hb5.frozen pbL_w4).trans (pbF_w4 o)
  have pbL_W5 : w.heap.size < W5.heap.size := Nat.lt_of_lt_of_le pbL_w4 hb5.size
  have at0_W5 := (hb5.cell atL_w4).trans at0_w4
  have at1_W5 := (hb5.cell atL_w4).trans at1_w4
  have at2_W5 := (hb5.cell atL_w4).trans at2_w4
  have at3_W5 := (hb5.cell atL_w4).trans at3_w4
  have atL_W5 : w.heap.size + 1 < W5.heap.size := Nat.lt_of_lt_of_le atL_w4 hb5.size
  have rs0_W5 := (hb5.cell rsL_w4).trans rs0_w4
  have rs1_W5 := (hb5.cell rsL_w4).trans rs1_w4
  have rsF_W5 : ∀ o, W5.frozen? ⟨w.heap.size + 1 + 1, o, none⟩ = false := fun o => (hb5.frozen rsL_w4).trans (rsF_w4 o)
  have rsL_W5 : w.heap.size + 1 + 1 < W5.heap.size := Nat.lt_of_lt_of_le rsL_w4 hb5.size
  have oP_W5 := hidP (OwnG.later oP_w4.out hb5)
  have oB_W5 := hidP (OwnG.later oB_w4.out hb5)
  have acc_W5 := hidP (acc_w4.out.trans (hb5.mono acc_w4.out.size))
  have ac3_W5 := hidP (ac3_w4.out.trans (hb5.mono ac3_w4.out.size))
  clear pbF_w4 pb0_w4 pb1_w4 pbL_w4 at0_w4 at1_w4 at2_w4 at3_w4 atL_w4 rsF_w4 rs0_w4 rs1_w4 rsL_w4 oP_w4 oB_w4 acc_w4 ac3_w4 hb5 oB oS
  refine (HPO.out _ acc_W5.out).mono ?_
  rintro e w6 ⟨rfl, hb6⟩
  have pb0_w6 := (hb6.cell pbL_W5).trans pb0_W5
  have pb1_w6 := (hb6.cell pbL_W5).trans pb1_W5
  have pbF_w6 : ∀ o, w6.frozen? ⟨w.heap.size, o, none⟩ = false := fun o => (hb6.frozen pbL_W5).trans (pbF_W5 o)
  have pbL_w6 : w.heap.size < w6.heap.size := Nat.lt_of_lt_of_le pbL_W5 hb6.size
  have at0_w6 := (hb6.cell atL_W5).trans at0_W5
  have at1_w6 := (hb6.cell atL_W5).trans at1_W5
  have at2_w6 := (hb6.cell atL_W5).trans at2_W5
  have at3_w6 := (hb6.cell atL_W5).trans at3_W5
  have atL_w6 : w.heap.size + 1 < w6.heap.size := Nat.lt_of_lt_of_le atL_W5 hb6.size
  have rs0_w6 := (hb6.cell rsL_W5).trans rs0_W5
  have rs1_w6 := (hb6.cell rsL_W5).trans rs1_W5
  have rsF_w6 : ∀ o, w6.frozen? ⟨w.heap.size + 1 + 1, o, none⟩ = false := fun o => (hb6.frozen rsL_W5).trans (rsF_W5 o)
  have rsL_w6 : w.heap.size + 1 + 1 < w6.heap.size := Nat.lt_of_lt_of_le rsL_W5 hb6.size
  have ot0_w6 := (hb6.cell oL).trans o0
  have ot1_w6 := (hb6.cell oL).trans o1
  have otF_w6 : ∀ o, w6.frozen? ⟨w4.heap.size, o, none⟩ = false := fun o => (hb6.frozen oL).trans (oF o)
  have otL_w6 : w4.heap.size < w6.heap.size := Nat.lt_of_lt_of_le oL hb6.size
  have oP_w6 := hidP (OwnG.later oP_W5.out hb6)
  have oB_w6 := hidP (OwnG.later oB_W5.out hb6)
  have acc_w6 := hidP (acc_W5.out.trans (hb6.mono acc_W5.out.size))
  have ac3_w6 := hidP (ac3_W5.out.trans (hb6.mono ac3_W5.out.size))
  clear pbF_W5 pb0_W5 pb1_W5 pbL_W5 at0_W5 at1_W5 at2_W5 at3_W5 atL_W5 rsF_W5 rs0_W5 rs1_W5 rsL_W5 oF o0 o1 oL oP_W5 oB_W5 acc_W5 ac3_W5 hb6
  go_wp2_with fail
  refine (HPk.out _).mono ?_
  rintro e w7 ⟨rfl, hb7⟩
  have pb0_w7 := (hb7.cell pbL_w6).trans pb0_w6
  have pb1_w7 := (hb7.cell pbL_w6).trans pb1_w6
  have pbF_w7 : ∀ o, w7.frozen? ⟨w.heap.size, o, none⟩ = false := fun o => (hb7.frozen pbL_w6).trans (pbF_w6 o)
  have pbL_w7 : w.heap.size < w7.heap.size := Nat.lt_of_lt_of_le pbL_w6 hb7.size
  have at0_w7 := (hb7.cell atL_w6).trans at0_w6
  have at1_w7 := (hb7.cell atL_w6).trans at1_w6
  have at2_w7 := (hb7.cell atL_w6).trans at2_w6
  have at3_w7 := (hb7.cell atL_w6).trans at3_w6
  have atL_w7 : w.heap.size + 1 < w7.heap.size := Nat.lt_of_lt_of_le atL_w6 hb7.size
  have rs0_w7 := (hb7.cell rsL_w6).trans rs0_w6
  have rs1_w7 := (hb7.cell rsL_w6).trans rs1_w6
  have rsF_w7 : ∀ o, w7.frozen? ⟨w.heap.size + 1 + 1, o, none⟩ = false := fun o => (hb7.frozen rsL_w6).trans (rsF_w6 o)
  have rsL_w7 : w.heap.size + 1 + 1 < w7.heap.size := Nat.lt_of_lt_of_le rsL_w6 hb7.size
  have ot0_w7 := (hb7.cell otL_w6).trans ot0_w6
  have ot1_w7 := (hb7.cell otL_w6).trans ot1_w6
  have otF_w7 : ∀ o, w7.frozen? ⟨w4.heap.size, o, none⟩ = false := fun o => (hb7.frozen otL_w6).trans (otF_w6 o)
  have otL_w7 : w4.heap.size < w7.heap.size := Nat.lt_of_lt_of_le otL_w6 hb7.size
  have oP_w7 := hidP (OwnG.later oP_w6.out hb7)
  have oB_w7 := hidP (OwnG.later oB_w6.out hb7)
  have acc_w7 := hidP (acc_w6.out.trans (hb7.mono acc_w6.out.size))
  have ac3_w7 := hidP (ac3_w6.out.trans (hb7.mono ac3_w6.out.size))
  clear pbF_w6 pb0_w6 pb1_w6 pbL_w6 at0_w6 at1_w6 at2_w6 at3_w6 atL_w6 rsF_w6 rs0_w6 rs1_w6 rsL_w6 otF_w6 ot0_w6 ot1_w6 otL_w6 oP_w6 oB_w6 acc_w6 ac3_w6 hb7
  go_wp2_with fail
  refine bodyPost_ret (v := .tuple #[.agg #[.slice a np c, .slice b nb d], .int .i64 1]) (by simp [results, Try.results21, go_sem, rs0_w7, rs1_w7]) rfl ⟨_, _, _, _, rfl, (OwnG.set2 oP_w7.out kL9).mono (Nat.le_of_lt UL9), (OwnG.set2 oB_w7.out kL9).mono (Nat.le_of_lt UL9), HNE.out, below_set2 acc_w7.out (by omega)⟩

set_option maxRecDepth 10000 in
set_option maxHeartbeats 4000000 in
theorem sDrop_c (pt : Pf) (g h : Nat) (np nb : Nat) (ps : List Pl) (bs : List Bk) (w : World) (hnp : np = ps.length) (hnb : nb = bs.length) (hP : RowG KPl w (some ⟨g, 0, none⟩) ps) (hK : RowG KBk w (some ⟨h, 0, none⟩) bs) (hl : np ≤ 1048576) (hl' : nb ≤ 1048576) (hst : ∀ q ∈ bs, q.t.size ≤ 9223372036854775807) (hr : planB ps bs = true) (hk : pt.pk = true) (hp : plc pt ps = -1) :
    Calls Try.prog 21 #[.agg #[.slice (some ⟨g, 0, none⟩) np np, .slice (some ⟨h, 0, none⟩) nb nb], .agg #[.bool pt.s, .int .i64 pt.H.toInt, .int .i64 pt.L.toInt, .int .i64 pt.b]] w fun e w' => ∃ a c b d, e = .returned (.tuple #[.agg #[.slice a np c, .slice b nb d], .int .i64 (4)]) ∧ OwnG KPl 48 w' w.heap.size (.slice a np c) (ps) ∧ OwnG KBk 56 w' w.heap.size (.slice b nb d) (bs) ∧ (∀ k, (Value.slice a np c).ownBlock = some k → (Value.slice b nb d).ownBlock ≠ some k) ∧ Below w.heap.size w w' := by
  have HOw := hidP (fun W h' => l5Copy_any (some ⟨g, 0, none⟩) np np (some ⟨h, 0, none⟩) nb nb ps bs W hnp hnb (hP.later h') (hK.later h') (fun e => by cases e) (fun e => by cases e) hl hl')
  have HPO := hidP (fun W h' => sPlanOk_any (some ⟨g, 0, none⟩) np np (some ⟨h, 0, none⟩) nb nb ps bs W hnp hnb (hP.later h') (hK.later h') (by omega) (by omega) hst)
  have HPk := hidP (sPrefixOk_any pt.s pt.H pt.L pt.b)
  change Hid (∀ w, Calls Try.prog 41 _ w fun e w' => e = .returned (.bool pt.pk) ∧ Below w.heap.size w w') at HPk
  have hd : Dsj ps := (pools_dsj ps none (fun _ h => by cases h) (by have hr' := hr; unfold planB at hr'; rw [Bool.and_eq_true, Bool.and_eq_true (poolsF none ps)] at hr'; exact hr'.2.1)).1
  have HPl := hidP (fun W h' => l5Exact_any pt hk (some ⟨g, 0, none⟩) np np (some ⟨h, 0, none⟩) nb nb ps hd W hnp (hP.later h') (by omega))
  have HBI := hidP (fun W h' => l5Blocks_any pt (some ⟨g, 0, none⟩) np np (some ⟨h, 0, none⟩) nb nb bs W hnb (hK.later h') hl')
  have HN := hidP (And.intro hnp hnb)
  have HRP := hidP hP
  clear hP hK hnp hnb hst
  rw [hr] at HPO
  rw [hk] at HPk
  rw [hp] at HPl
  go_enter Try.func21, Try.ntmps21
  go_wp2_with fail
  have uF := frz2 w 32 (.slice (some ⟨g, 0, none⟩) np np) (.slice (some ⟨h, 0, none⟩) nb nb)
  obtain ⟨u0, u1⟩ := box2 (u := .slice (some ⟨g, 0, none⟩) np np) (v := .slice (some ⟨h, 0, none⟩) nb nb) w 32
  have uB := alloc_below w (.cells #[.slice (some ⟨g, 0, none⟩) np np, .slice (some ⟨h, 0, none⟩) nb nb] 32)
  have uL := alloc_lt w (.cells #[.slice (some ⟨g, 0, none⟩) np np, .slice (some ⟨h, 0, none⟩) nb nb] 32)
  have uS : (w.alloc (.cells #[.slice (some ⟨g, 0, none⟩) np np, .slice (some ⟨h, 0, none⟩) nb nb] 32)).heap.size = w.heap.size + 1 := by simp
  generalize w.alloc (.cells #[.slice (some ⟨g, 0, none⟩) np np, .slice (some ⟨h, 0, none⟩) nb nb] 32) = W1 at *
  obtain ⟨y0, y1, y2, y3⟩ := box4 (p := pt) W1 46
  have yB := alloc_below W1 (.cells #[.bool pt.s, .int .i64 pt.H.toInt, .int .i64 pt.L.toInt, .int .i64 pt.b] 46)
  have yL := alloc_lt W1 (.cells #[.bool pt.s, .int .i64 pt.H.toInt, .int .i64 pt.L.toInt, .int .i64 pt.b] 46)
  have yS : (W1.alloc (.cells #[.bool pt.s, .int .i64 pt.H.toInt, .int .i64 pt.L.toInt, .int .i64 pt.b] 46)).heap.size = W1.heap.size + 1 := by simp
  generalize W1.alloc (.cells #[.bool pt.s, .int .i64 pt.H.toInt, .int .i64 pt.L.toInt, .int .i64 pt.b] 46) = W2 at *
  rw [uS] at y0 y1 y2 y3 yL yS
  have kF := frz2 W2 32 (.slice none 0 0) (.slice none 0 0)
  obtain ⟨k0, k1⟩ := box2 (u := .slice none 0 0) (v := .slice none 0 0) W2 32
  have kB := alloc_below W2 (.cells #[.slice none 0 0, .slice none 0 0] 32)
  have kL := alloc_lt W2 (.cells #[.slice none 0 0, .slice none 0 0] 32)
  have kS : (W2.alloc (.cells #[.slice none 0 0, .slice none 0 0] 32)).heap.size = W2.heap.size + 1 := by simp
  generalize W2.alloc (.cells #[.slice none 0 0, .slice none 0 0] 32) = W3 at *
  rw [yS] at k0 k1 kL kS
  rw [yS] at kF
  have l0 : w.heap.size < W2.heap.size := by omega
  have l1 : w.heap.size + 1 < W2.heap.size := by omega
  have U0 := (kB.cell l0).trans ((yB.cell uL).trans u0)
  have U1 := (kB.cell l0).trans ((yB.cell uL).trans u1)
  have UF : ∀ o, W3.frozen? ⟨w.heap.size, o, none⟩ = false := fun o => (kB.frozen l0).trans ((yB.frozen uL).trans (uF o))
  have Y0 := (kB.cell l1).trans y0
  have Y1 := (kB.cell l1).trans y1
  have Y2 := (kB.cell l1).trans y2
  have Y3 := (kB.cell l1).trans y3
  have acc0 := hidP ((uB.trans (yB.mono uB.size)).trans (kB.mono (Nat.le_trans uB.size yB.size)))
  have UL : w.heap.size < W3.heap.size := by omega
  have YL : w.heap.size + 1 < W3.heap.size := by omega
  have kL3 : w.heap.size + 1 + 1 < W3.heap.size := by omega
  have UL9 := UL
  have kL9 := kL3
  clear uB yB kB uS yS kS u0 u1 y0 y1 y2 y3 uL yL kL uF l0 l1
  have U0c := U0
  have ac3_W3 := hidP (Below.refl W3.heap.size W3)
  refine (HOw.out _ acc0.out).mono ?_
  rintro e w4 ⟨a, c, b, d, rfl, op, ob, hne, hb4⟩
  have pb0_w4 := (hb4.cell UL).trans U0
  have pb1_w4 := (hb4.cell UL).trans U1
  have pbF_w4 : ∀ o, w4.frozen? ⟨w.heap.size, o, none⟩ = false := fun o => (hb4.frozen UL).trans (UF o)
  have pbL_w4 : w.heap.size < w4.heap.size := Nat.lt_of_lt_of_le UL hb4.size
  have at0_w4 := (hb4.cell YL).trans Y0
  have at1_w4 := (hb4.cell YL).trans Y1
  have at2_w4 := (hb4.cell YL).trans Y2
  have at3_w4 := (hb4.cell YL).trans Y3
  have atL_w4 : w.heap.size + 1 < w4.heap.size := Nat.lt_of_lt_of_le YL hb4.size
  have rs0_w4 := (hb4.cell kL3).trans k0
  have rs1_w4 := (hb4.cell kL3).trans k1
  have rsF_w4 : ∀ o, w4.frozen? ⟨w.heap.size + 1 + 1, o, none⟩ = false := fun o => (hb4.frozen kL3).trans (kF o)
  have rsL_w4 : w.heap.size + 1 + 1 < w4.heap.size := Nat.lt_of_lt_of_le kL3 hb4.size
  have acc_w4 := hidP (acc0.out.trans (hb4.mono acc0.out.size))
  have ac3_w4 := hidP (ac3_W3.out.trans (hb4.mono ac3_W3.out.size))
  have w43c := hb4.size
  have HLB4 := hidP (fun j hj => (OwnG.lt ob j hj).2)
  have oP_w4 := hidP op
  have oB_w4 := hidP ob
  have HNE := hidP hne
  clear UF U0 U1 UL Y0 Y1 Y2 Y3 YL kF k0 k1 kL3 acc0 ac3_W3 hb4 op ob hne
  go_wp2_with fail
  have oF := frz2 w4 32 (.slice a np c) (.slice b nb d)
  obtain ⟨o0, o1⟩ := box2 (u := .slice a np c) (v := .slice b nb d) w4 32
  have oB := alloc_below w4 (.cells #[.slice a np c, .slice b nb d] 32)
  have oL := alloc_lt w4 (.cells #[.slice a np c, .slice b nb d] 32)
  have oS : (w4.alloc (.cells #[.slice a np c, .slice b nb d] 32)).heap.size = w4.heap.size + 1 := by simp
  generalize w4.alloc (.cells #[.slice a np c, .slice b nb d] 32) = W5 at *
  have hb5 := oB
  have pb0_W5 := (hb5.cell pbL_w4).trans pb0_w4
  have pb1_W5 := (hb5.cell pbL_w4).trans pb1_w4
  have pbF_W5 : ∀ o, W5.frozen? ⟨w.heap.size, o, none⟩ = false := fun o => (hb5.frozen pbL_w4).trans (pbF_w4 o)
  have pbL_W5 : w.heap.size < W5.heap.size := Nat.lt_of_lt_of_le pbL_w4 hb5.size
  have at0_W5 := (hb5.cell atL_w4).trans at0_w4
  have at1_W5 := (hb5.cell atL_w4).trans at1_w4
  have at2_W5 := (hb5.cell atL_w4).trans at2_w4
  have at3_W5 := (hb5.cell atL_w4).trans at3_w4
  have atL_W5 : w.heap.size + 1 < W5.heap.size := Nat.lt_of_lt_of_le atL_w4 hb5.size
  have rs0_W5 := (hb5.cell rsL_w4).trans rs0_w4
  have rs1_W5 := (hb5.cell rsL_w4).trans rs1_w4
  have rsF_W5 : ∀ o, W5.frozen? ⟨w.heap.size + 1 + 1, o, none⟩ = false := fun o => (hb5.frozen rsL_w4).trans (rsF_w4 o)
  have rsL_W5 : w.heap.size + 1 + 1 < W5.heap.size := Nat.lt_of_lt_of_le rsL_w4 hb5.size
  have oP_W5 := hidP (OwnG.later oP_w4.out hb5)
  have oB_W5 := hidP (OwnG.later oB_w4.out hb5)
  have acc_W5 := hidP (acc_w4.out.trans (hb5.mono acc_w4.out.size))
  have ac3_W5 := hidP (ac3_w4.out.trans (hb5.mono ac3_w4.out.size))
  clear pbF_w4 pb0_w4 pb1_w4 pbL_w4 at0_w4 at1_w4 at2_w4 at3_w4 atL_w4 rsF_w4 rs0_w4 rs1_w4 rsL_w4 oP_w4 oB_w4 acc_w4 ac3_w4 hb5 oB oS
  refine (HPO.out _ acc_W5.out).mono ?_
  rintro e w6 ⟨rfl, hb6⟩
  have pb0_w6 := (hb6.cell pbL_W5).trans pb0_W5
  have pb1_w6 := (hb6.cell pbL_W5).trans pb1_W5
  have pbF_w6 : ∀ o, w6.frozen? ⟨w.heap.size, o, none⟩ = false := fun o => (hb6.frozen pbL_W5).trans (pbF_W5 o)
  have pbL_w6 : w.heap.size < w6.heap.size := Nat.lt_of_lt_of_le pbL_W5 hb6.size
  have at0_w6 := (hb6.cell atL_W5).trans at0_W5
  have at1_w6 := (hb6.cell atL_W5).trans at1_W5
  have at2_w6 := (hb6.cell atL_W5).trans at2_W5
  have at3_w6 := (hb6.cell atL_W5).trans at3_W5
  have atL_w6 : w.heap.size + 1 < w6.heap.size := Nat.lt_of_lt_of_le atL_W5 hb6.size
  have rs0_w6 := (hb6.cell rsL_W5).trans rs0_W5
  have rs1_w6 := (hb6.cell rsL_W5).trans rs1_W5
  have rsF_w6 : ∀ o, w6.frozen? ⟨w.heap.size + 1 + 1, o, none⟩ = false := fun o => (hb6.frozen rsL_W5).trans (rsF_W5 o)
  have rsL_w6 : w.heap.size + 1 + 1 < w6.heap.size := Nat.lt_of_lt_of_le rsL_W5 hb6.size
  have ot0_w6 := (hb6.cell oL).trans o0
  have ot1_w6 := (hb6.cell oL).trans o1
  have otF_w6 : ∀ o, w6.frozen? ⟨w4.heap.size, o, none⟩ = false := fun o => (hb6.frozen oL).trans (oF o)
  have otL_w6 : w4.heap.size < w6.heap.size := Nat.lt_of_lt_of_le oL hb6.size
  have oP_w6 := hidP (OwnG.later oP_W5.out hb6)
  have oB_w6 := hidP (OwnG.later oB_W5.out hb6)
  have acc_w6 := hidP (acc_W5.out.trans (hb6.mono acc_W5.out.size))
  have ac3_w6 := hidP (ac3_W5.out.trans (hb6.mono ac3_W5.out.size))
  clear pbF_W5 pb0_W5 pb1_W5 pbL_W5 at0_W5 at1_W5 at2_W5 at3_W5 atL_W5 rsF_W5 rs0_W5 rs1_W5 rsL_W5 oF o0 o1 oL oP_W5 oB_W5 acc_W5 ac3_W5 hb6
  go_wp2_with fail
  refine (HPk.out _).mono ?_
  rintro e w7 ⟨rfl, hb7⟩
  have pb0_w7 := (hb7.cell pbL_w6).trans pb0_w6
  have pb1_w7 := (hb7.cell pbL_w6).trans pb1_w6
  have pbF_w7 : ∀ o, w7.frozen? ⟨w.heap.size, o, none⟩ = false := fun o => (hb7.frozen pbL_w6).trans (pbF_w6 o)
  have pbL_w7 : w.heap.size < w7.heap.size := Nat.lt_of_lt_of_le pbL_w6 hb7.size
  have at0_w7 := (hb7.cell atL_w6).trans at0_w6
  have at1_w7 := (hb7.cell atL_w6).trans at1_w6
  have at2_w7 := (hb7.cell atL_w6).trans at2_w6
  have at3_w7 := (hb7.cell atL_w6).trans at3_w6
  have atL_w7 : w.heap.size + 1 < w7.heap.size := Nat.lt_of_lt_of_le atL_w6 hb7.size
  have rs0_w7 := (hb7.cell rsL_w6).trans rs0_w6
  have rs1_w7 := (hb7.cell rsL_w6).trans rs1_w6
  have rsF_w7 : ∀ o, w7.frozen? ⟨w.heap.size + 1 + 1, o, none⟩ = false := fun o => (hb7.frozen rsL_w6).trans (rsF_w6 o)
  have rsL_w7 : w.heap.size + 1 + 1 < w7.heap.size := Nat.lt_of_lt_of_le rsL_w6 hb7.size
  have ot0_w7 := (hb7.cell otL_w6).trans ot0_w6
  have ot1_w7 := (hb7.cell otL_w6).trans ot1_w6
  have otF_w7 : ∀ o, w7.frozen? ⟨w4.heap.size, o, none⟩ = false := fun o => (hb7.frozen otL_w6).trans (otF_w6 o)
  have otL_w7 : w4.heap.size < w7.heap.size := Nat.lt_of_lt_of_le otL_w6 hb7.size
  have oP_w7 := hidP (OwnG.later oP_w6.out hb7)
  have oB_w7 := hidP (OwnG.later oB_w6.out hb7)
  have acc_w7 := hidP (acc_w6.out.trans (hb7.mono acc_w6.out.size))
  have ac3_w7 := hidP (ac3_w6.out.trans (hb7.mono ac3_w6.out.size))
  clear pbF_w6 pb0_w6 pb1_w6 pbL_w6 at0_w6 at1_w6 at2_w6 at3_w6 atL_w6 rsF_w6 rs0_w6 rs1_w6 rsL_w6 otF_w6 ot0_w6 ot1_w6 otL_w6 oP_w6 oB_w6 acc_w6 ac3_w6 hb7
  go_wp2_with fail
  refine (HPl.out _ acc_w7.out).mono ?_
  rintro e w8 ⟨rfl, hb8⟩
  have pb0_w8 := (hb8.cell pbL_w7).trans pb0_w7
  have pb1_w8 := (hb8.cell pbL_w7).trans pb1_w7
  have pbF_w8 : ∀ o, w8.frozen? ⟨w.heap.size, o, none⟩ = false := fun o => (hb8.frozen pbL_w7).trans (pbF_w7 o)
  have pbL_w8 : w.heap.size < w8.heap.size := Nat.lt_of_lt_of_le pbL_w7 hb8.size
  have at0_w8 := (hb8.cell atL_w7).trans at0_w7
  have at1_w8 := (hb8.cell atL_w7).trans at1_w7
  have at2_w8 := (hb8.cell atL_w7).trans at2_w7
  have at3_w8 := (hb8.cell atL_w7).trans at3_w7
  have atL_w8 : w.heap.size + 1 < w8.heap.size := Nat.lt_of_lt_of_le atL_w7 hb8.size
  have rs0_w8 := (hb8.cell rsL_w7).trans rs0_w7
  have rs1_w8 := (hb8.cell rsL_w7).trans rs1_w7
  have rsF_w8 : ∀ o, w8.frozen? ⟨w.heap.size + 1 + 1, o, none⟩ = false := fun o => (hb8.frozen rsL_w7).trans (rsF_w7 o)
  have rsL_w8 : w.heap.size + 1 + 1 < w8.heap.size := Nat.lt_of_lt_of_le rsL_w7 hb8.size
  have ot0_w8 := (hb8.cell otL_w7).trans ot0_w7
  have ot1_w8 := (hb8.cell otL_w7).trans ot1_w7
  have otF_w8 : ∀ o, w8.frozen? ⟨w4.heap.size, o, none⟩ = false := fun o => (hb8.frozen otL_w7).trans (otF_w7 o)
  have otL_w8 : w4.heap.size < w8.heap.size := Nat.lt_of_lt_of_le otL_w7 hb8.size
  have oP_w8 := hidP (OwnG.later oP_w7.out hb8)
  have oB_w8 := hidP (OwnG.later oB_w7.out hb8)
  have acc_w8 := hidP (acc_w7.out.trans (hb8.mono acc_w7.out.size))
  have ac3_w8 := hidP (ac3_w7.out.trans (hb8.mono ac3_w7.out.size))
  clear pbF_w7 pb0_w7 pb1_w7 pbL_w7 at0_w7 at1_w7 at2_w7 at3_w7 atL_w7 rsF_w7 rs0_w7 rs1_w7 rsL_w7 otF_w7 ot0_w7 ot1_w7 otL_w7 oP_w7 oB_w7 acc_w7 ac3_w7 hb8
  go_wp2_with fail
  refine bodyPost_ret (v := .tuple #[.agg #[.slice a np c, .slice b nb d], .int .i64 4]) (by simp [results, Try.results21, go_sem, rs0_w8, rs1_w8]) rfl ⟨_, _, _, _, rfl, (OwnG.set2 oP_w8.out kL9).mono (Nat.le_of_lt UL9), (OwnG.set2 oB_w8.out kL9).mono (Nat.le_of_lt UL9), HNE.out, below_set2 acc_w8.out (by omega)⟩

set_option maxRecDepth 10000 in
set_option maxHeartbeats 4000000 in
theorem sDrop_d (pt : Pf) (g h : Nat) (np nb : Nat) (ps : List Pl) (bs : List Bk) (w : World) (hnp : np = ps.length) (hnb : nb = bs.length) (hP : RowG KPl w (some ⟨g, 0, none⟩) ps) (hK : RowG KBk w (some ⟨h, 0, none⟩) bs) (hl : np ≤ 1048576) (hl' : nb ≤ 1048576) (hst : ∀ q ∈ bs, q.t.size ≤ 9223372036854775807) (hr : planB ps bs = true) (hk : pt.pk = true) (i : Nat) (hp : plc pt ps = (i : Int)) (hu : 0 < (fil bs pt).length) :
    Calls Try.prog 21 #[.agg #[.slice (some ⟨g, 0, none⟩) np np, .slice (some ⟨h, 0, none⟩) nb nb], .agg #[.bool pt.s, .int .i64 pt.H.toInt, .int .i64 pt.L.toInt, .int .i64 pt.b]] w fun e w' => ∃ a c b d, e = .returned (.tuple #[.agg #[.slice a np c, .slice b nb d], .int .i64 (6)]) ∧ OwnG KPl 48 w' w.heap.size (.slice a np c) (ps) ∧ OwnG KBk 56 w' w.heap.size (.slice b nb d) (bs) ∧ (∀ k, (Value.slice a np c).ownBlock = some k → (Value.slice b nb d).ownBlock ≠ some k) ∧ Below w.heap.size w w' := by
  have HOw := hidP (fun W h' => l5Copy_any (some ⟨g, 0, none⟩) np np (some ⟨h, 0, none⟩) nb nb ps bs W hnp hnb (hP.later h') (hK.later h') (fun e => by cases e) (fun e => by cases e) hl hl')
  have HPO := hidP (fun W h' => sPlanOk_any (some ⟨g, 0, none⟩) np np (some ⟨h, 0, none⟩) nb nb ps bs W hnp hnb (hP.later h') (hK.later h') (by omega) (by omega) hst)
  have HPk := hidP (sPrefixOk_any pt.s pt.H pt.L pt.b)
  change Hid (∀ w, Calls Try.prog 41 _ w fun e w' => e = .returned (.bool pt.pk) ∧ Below w.heap.size w w') at HPk
  have hd : Dsj ps := (pools_dsj ps none (fun _ h => by cases h) (by have hr' := hr; unfold planB at hr'; rw [Bool.and_eq_true, Bool.and_eq_true (poolsF none ps)] at hr'; exact hr'.2.1)).1
  have HPl := hidP (fun W h' => l5Exact_any pt hk (some ⟨g, 0, none⟩) np np (some ⟨h, 0, none⟩) nb nb ps hd W hnp (hP.later h') (by omega))
  have HBI := hidP (fun W h' => l5Blocks_any pt (some ⟨g, 0, none⟩) np np (some ⟨h, 0, none⟩) nb nb bs W hnb (hK.later h') hl')
  have HN := hidP (And.intro hnp hnb)
  have HRP := hidP hP
  clear hP hK hnp hnb hst
  rw [hr] at HPO
  rw [hk] at HPk
  rw [hp] at HPl
  have gi : decide ((i : Int) < 0) = false := decide_eq_false (by omega)
  have gu : decide ((0 : Int) < ((fil bs pt).length : Int)) = true := decide_eq_true (by omega)
  have gu2 : decide (0 < (fil bs pt).length) = true := decide_eq_true hu
  go_enter Try.func21, Try.ntmps21
  go_wp2_with fail
  have uF := frz2 w 32 (.slice (some ⟨g, 0, none⟩) np np) (.slice (some ⟨h, 0, none⟩) nb nb)
  obtain ⟨u0, u1⟩ := box2 (u := .slice (some ⟨g, 0, none⟩) np np) (v := .slice (some ⟨h, 0, none⟩) nb nb) w 32
  have uB := alloc_below w (.cells #[.slice (some ⟨g, 0, none⟩) np np, .slice (some ⟨h, 0, none⟩) nb nb] 32)
  have uL := alloc_lt w (.cells #[.slice (some ⟨g, 0, none⟩) np np, .slice (some ⟨h, 0, none⟩) nb nb] 32)
  have uS : (w.alloc (.cells #[.slice (some ⟨g, 0, none⟩) np np, .slice (some ⟨h, 0, none⟩) nb nb] 32)).heap.size = w.heap.size + 1 := by simp
  generalize w.alloc (.cells #[.slice (some ⟨g, 0, none⟩) np np, .slice (some ⟨h, 0, none⟩) nb nb] 32) = W1 at *
  obtain ⟨y0, y1, y2, y3⟩ := box4 (p := pt) W1 46
  have yB := alloc_below W1 (.cells #[.bool pt.s, .int .i64 pt.H.toInt, .int .i64 pt.L.toInt, .int .i64 pt.b] 46)
  have yL := alloc_lt W1 (.cells #[.bool pt.s, .int .i64 pt.H.toInt, .int .i64 pt.L.toInt, .int .i64 pt.b] 46)
  have yS : (W1.alloc (.cells #[.bool pt.s, .int .i64 pt.H.toInt, .int .i64 pt.L.toInt, .int .i64 pt.b] 46)).heap.size = W1.heap.size + 1 := by simp
  generalize W1.alloc (.cells #[.bool pt.s, .int .i64 pt.H.toInt, .int .i64 pt.L.toInt, .int .i64 pt.b] 46) = W2 at *
  rw [uS] at y0 y1 y2 y3 yL yS
  have kF := frz2 W2 32 (.slice none 0 0) (.slice none 0 0)
  obtain ⟨k0, k1⟩ := box2 (u := .slice none 0 0) (v := .slice none 0 0) W2 32
  have kB := alloc_below W2 (.cells #[.slice none 0 0, .slice none 0 0] 32)
  have kL := alloc_lt W2 (.cells #[.slice none 0 0, .slice none 0 0] 32)
  have kS : (W2.alloc (.cells #[.slice none 0 0, .slice none 0 0] 32)).heap.size = W2.heap.size + 1 := by simp
  generalize W2.alloc (.cells #[.slice none 0 0, .slice none 0 0] 32) = W3 at *
  rw [yS] at k0 k1 kL kS
  rw [yS] at kF
  have l0 : w.heap.size < W2.heap.size := by omega
  have l1 : w.heap.size + 1 < W2.heap.size := by omega
  have U0 := (kB.cell l0).trans ((yB.cell uL).trans u0)
  have U1 := (kB.cell l0).trans ((yB.cell uL).trans u1)
  have UF : ∀ o, W3.frozen? ⟨w.heap.size, o, none⟩ = false := fun o => (kB.frozen l0).trans ((yB.frozen uL).trans (uF o))
  have Y0 := (kB.cell l1).trans y0
  have Y1 := (kB.cell l1).trans y1
  have Y2 := (kB.cell l1).trans y2
  have Y3 := (kB.cell l1).trans y3
  have acc0 := hidP ((uB.trans (yB.mono uB.size)).trans (kB.mono (Nat.le_trans uB.size yB.size)))
  have UL : w.heap.size < W3.heap.size := by omega
  have YL : w.heap.size + 1 < W3.heap.size := by omega
  have kL3 : w.heap.size + 1 + 1 < W3.heap.size := by omega
  have UL9 := UL
  have kL9 := kL3
  clear uB yB kB uS yS kS u0 u1 y0 y1 y2 y3 uL yL kL uF l0 l1
  have U0c := U0
  have ac3_W3 := hidP (Below.refl W3.heap.size W3)
  refine (HOw.out _ acc0.out).mono ?_
  rintro e w4 ⟨a, c, b, d, rfl, op, ob, hne, hb4⟩
  have pb0_w4 := (hb4.cell UL).trans U0
  have pb1_w4 := (hb4.cell UL).trans U1
  have pbF_w4 : ∀ o, w4.frozen? ⟨w.heap.size, o, none⟩ = false := fun o => (hb4.frozen UL).trans (UF o)
  have pbL_w4 : w.heap.size < w4.heap.size := Nat.lt_of_lt_of_le UL hb4.size
  have at0_w4 := (hb4.cell YL).trans Y0
  have at1_w4 := (hb4.cell YL).trans Y1
  have at2_w4 := (hb4.cell YL).trans Y2
  have at3_w4 := (hb4.cell YL).trans Y3
  have atL_w4 : w.heap.size + 1 < w4.heap.size := Nat.lt_of_lt_of_le YL hb4.size
  have rs0_w4 := (hb4.cell kL3).trans k0
  have rs1_w4 := (hb4.cell kL3).trans k1
  have rsF_w4 : ∀ o, w4.frozen? ⟨w.heap.size + 1 + 1, o, none⟩ = false := fun o => (hb4.frozen kL3).trans (kF o)
  have rsL_w4 : w.heap.size + 1 + 1 < w4.heap.size := Nat.lt_of_lt_of_le kL3 hb4.size
  have acc_w4 := hidP (acc0.out.trans (hb4.mono acc0.out.size))
  have ac3_w4 := hidP (ac3_W3.out.trans (hb4.mono ac3_W3.out.size))
  have w43c := hb4.size
  have HLB4 := hidP (fun j hj => (OwnG.lt ob j hj).2)
  have oP_w4 := hidP op
  have oB_w4 := hidP ob
  have HNE := hidP hne
  clear UF U0 U1 UL Y0 Y1 Y2 Y3 YL kF k0 k1 kL3 acc0 ac3_W3 hb4 op ob hne
  go_wp2_with fail
  have oF := frz2 w4 32 (.slice a np c) (.slice b nb d)
  obtain ⟨o0, o1⟩ := box2 (u := .slice a np c) (v := .slice b nb d) w4 32
  have oB := alloc_below w4 (.cells #[.slice a np c, .slice b nb d] 32)
  have oL := alloc_lt w4 (.cells #[.slice a np c, .slice b nb d] 32)
  have oS : (w4.alloc (.cells #[.slice a np c, .slice b nb d] 32)).heap.size = w4.heap.size + 1 := by simp
  generalize w4.alloc (.cells #[.slice a np c, .slice b nb d] 32) = W5 at *
  have hb5 := oB
  have pb0_W5 := (hb5.cell pbL_w4).trans pb0_w4
  have pb1_W5 := (hb5.cell pbL_w4).trans pb1_w4
  have pbF_W5 : ∀ o, W5.frozen? ⟨w.heap.size, o, none⟩ = false := fun o => (hb5.frozen pbL_w4).trans (pbF_w4 o)
  have pbL_W5 : w.heap.size < W5.heap.size := Nat.lt_of_lt_of_le pbL_w4 hb5.size
  have at0_W5 := (hb5.cell atL_w4).trans at0_w4
  have at1_W5 := (hb5.cell atL_w4).trans at1_w4
  have at2_W5 := (hb5.cell atL_w4).trans at2_w4
  have at3_W5 := (hb5.cell atL_w4).trans at3_w4
  have atL_W5 : w.heap.size + 1 < W5.heap.size := Nat.lt_of_lt_of_le atL_w4 hb5.size
  have rs0_W5 := (hb5.cell rsL_w4).trans rs0_w4
  have rs1_W5 := (hb5.cell rsL_w4).trans rs1_w4
  have rsF_W5 : ∀ o, W5.frozen? ⟨w.heap.size + 1 + 1, o, none⟩ = false := fun o => (hb5.frozen rsL_w4).trans (rsF_w4 o)
  have rsL_W5 : w.heap.size + 1 + 1 < W5.heap.size := Nat.lt_of_lt_of_le rsL_w4 hb5.size
  have oP_W5 := hidP (OwnG.later oP_w4.out hb5)
  have oB_W5 := hidP (OwnG.later oB_w4.out hb5)
  have acc_W5 := hidP (acc_w4.out.trans (hb5.mono acc_w4.out.size))
  have ac3_W5 := hidP (ac3_w4.out.trans (hb5.mono ac3_w4.out.size))
  clear pbF_w4 pb0_w4 pb1_w4 pbL_w4 at0_w4 at1_w4 at2_w4 at3_w4 atL_w4 rsF_w4 rs0_w4 rs1_w4 rsL_w4 oP_w4 oB_w4 acc_w4 ac3_w4 hb5 oB oS
  refine (HPO.out _ acc_W5.out).mono ?_
  rintro e w6 ⟨rfl, hb6⟩
  have pb0_w6 := (hb6.cell pbL_W5).trans pb0_W5
  have pb1_w6 := (hb6.cell pbL_W5).trans pb1_W5
  have pbF_w6 : ∀ o, w6.frozen? ⟨w.heap.size, o, none⟩ = false := fun o => (hb6.frozen pbL_W5).trans (pbF_W5 o)
  have pbL_w6 : w.heap.size < w6.heap.size := Nat.lt_of_lt_of_le pbL_W5 hb6.size
  have at0_w6 := (hb6.cell atL_W5).trans at0_W5
  have at1_w6 := (hb6.cell atL_W5).trans at1_W5
  have at2_w6 := (hb6.cell atL_W5).trans at2_W5
  have at3_w6 := (hb6.cell atL_W5).trans at3_W5
  have atL_w6 : w.heap.size + 1 < w6.heap.size := Nat.lt_of_lt_of_le atL_W5 hb6.size
  have rs0_w6 := (hb6.cell rsL_W5).trans rs0_W5
  have rs1_w6 := (hb6.cell rsL_W5).trans rs1_W5
  have rsF_w6 : ∀ o, w6.frozen? ⟨w.heap.size + 1 + 1, o, none⟩ = false := fun o => (hb6.frozen rsL_W5).trans (rsF_W5 o)
  have rsL_w6 : w.heap.size + 1 + 1 < w6.heap.size := Nat.lt_of_lt_of_le rsL_W5 hb6.size
  have ot0_w6 := (hb6.cell oL).trans o0
  have ot1_w6 := (hb6.cell oL).trans o1
  have otF_w6 : ∀ o, w6.frozen? ⟨w4.heap.size, o, none⟩ = false := fun o => (hb6.frozen oL).trans (oF o)
  have otL_w6 : w4.heap.size < w6.heap.size := Nat.lt_of_lt_of_le oL hb6.size
  have oP_w6 := hidP (OwnG.later oP_W5.out hb6)
  have oB_w6 := hidP (OwnG.later oB_W5.out hb6)
  have acc_w6 := hidP (acc_W5.out.trans (hb6.mono acc_W5.out.size))
  have ac3_w6 := hidP (ac3_W5.out.trans (hb6.mono ac3_W5.out.size))
  clear pbF_W5 pb0_W5 pb1_W5 pbL_W5 at0_W5 at1_W5 at2_W5 at3_W5 atL_W5 rsF_W5 rs0_W5 rs1_W5 rsL_W5 oF o0 o1 oL oP_W5 oB_W5 acc_W5 ac3_W5 hb6
  go_wp2_with fail
  refine (HPk.out _).mono ?_
  rintro e w7 ⟨rfl, hb7⟩
  have pb0_w7 := (hb7.cell pbL_w6).trans pb0_w6
  have pb1_w7 := (hb7.cell pbL_w6).trans pb1_w6
  have pbF_w7 : ∀ o, w7.frozen? ⟨w.heap.size, o, none⟩ = false := fun o => (hb7.frozen pbL_w6).trans (pbF_w6 o)
  have pbL_w7 : w.heap.size < w7.heap.size := Nat.lt_of_lt_of_le pbL_w6 hb7.size
  have at0_w7 := (hb7.cell atL_w6).trans at0_w6
  have at1_w7 := (hb7.cell atL_w6).trans at1_w6
  have at2_w7 := (hb7.cell atL_w6).trans at2_w6
  have at3_w7 := (hb7.cell atL_w6).trans at3_w6
  have atL_w7 : w.heap.size + 1 < w7.heap.size := Nat.lt_of_lt_of_le atL_w6 hb7.size
  have rs0_w7 := (hb7.cell rsL_w6).trans rs0_w6
  have rs1_w7 := (hb7.cell rsL_w6).trans rs1_w6
  have rsF_w7 : ∀ o, w7.frozen? ⟨w.heap.size + 1 + 1, o, none⟩ = false := fun o => (hb7.frozen rsL_w6).trans (rsF_w6 o)
  have rsL_w7 : w.heap.size + 1 + 1 < w7.heap.size := Nat.lt_of_lt_of_le rsL_w6 hb7.size
  have ot0_w7 := (hb7.cell otL_w6).trans ot0_w6
  have ot1_w7 := (hb7.cell otL_w6).trans ot1_w6
  have otF_w7 : ∀ o, w7.frozen? ⟨w4.heap.size, o, none⟩ = false := fun o => (hb7.frozen otL_w6).trans (otF_w6 o)
  have otL_w7 : w4.heap.size < w7.heap.size := Nat.lt_of_lt_of_le otL_w6 hb7.size
  have oP_w7 := hidP (OwnG.later oP_w6.out hb7)
  have oB_w7 := hidP (OwnG.later oB_w6.out hb7)
  have acc_w7 := hidP (acc_w6.out.trans (hb7.mono acc_w6.out.size))
  have ac3_w7 := hidP (ac3_w6.out.trans (hb7.mono ac3_w6.out.size))
  clear pbF_w6 pb0_w6 pb1_w6 pbL_w6 at0_w6 at1_w6 at2_w6 at3_w6 atL_w6 rsF_w6 rs0_w6 rs1_w6 rsL_w6 otF_w6 ot0_w6 ot1_w6 otL_w6 oP_w6 oB_w6 acc_w6 ac3_w6 hb7
  go_wp2_with fail
  refine (HPl.out _ acc_w7.out).mono ?_
  rintro e w8 ⟨rfl, hb8⟩
  have pb0_w8 := (hb8.cell pbL_w7).trans pb0_w7
  have pb1_w8 := (hb8.cell pbL_w7).trans pb1_w7
  have pbF_w8 : ∀ o, w8.frozen? ⟨w.heap.size, o, none⟩ = false := fun o => (hb8.frozen pbL_w7).trans (pbF_w7 o)
  have pbL_w8 : w.heap.size < w8.heap.size := Nat.lt_of_lt_of_le pbL_w7 hb8.size
  have at0_w8 := (hb8.cell atL_w7).trans at0_w7
  have at1_w8 := (hb8.cell atL_w7).trans at1_w7
  have at2_w8 := (hb8.cell atL_w7).trans at2_w7
  have at3_w8 := (hb8.cell atL_w7).trans at3_w7
  have atL_w8 : w.heap.size + 1 < w8.heap.size := Nat.lt_of_lt_of_le atL_w7 hb8.size
  have rs0_w8 := (hb8.cell rsL_w7).trans rs0_w7
  have rs1_w8 := (hb8.cell rsL_w7).trans rs1_w7
  have rsF_w8 : ∀ o, w8.frozen? ⟨w.heap.size + 1 + 1, o, none⟩ = false := fun o => (hb8.frozen rsL_w7).trans (rsF_w7 o)
  have rsL_w8 : w.heap.size + 1 + 1 < w8.heap.size := Nat.lt_of_lt_of_le rsL_w7 hb8.size
  have ot0_w8 := (hb8.cell otL_w7).trans ot0_w7
  have ot1_w8 := (hb8.cell otL_w7).trans ot1_w7
  have otF_w8 : ∀ o, w8.frozen? ⟨w4.heap.size, o, none⟩ = false := fun o => (hb8.frozen otL_w7).trans (otF_w7 o)
  have otL_w8 : w4.heap.size < w8.heap.size := Nat.lt_of_lt_of_le otL_w7 hb8.size
  have oP_w8 := hidP (OwnG.later oP_w7.out hb8)
  have oB_w8 := hidP (OwnG.later oB_w7.out hb8)
  have acc_w8 := hidP (acc_w7.out.trans (hb8.mono acc_w7.out.size))
  have ac3_w8 := hidP (ac3_w7.out.trans (hb8.mono ac3_w7.out.size))
  clear pbF_w7 pb0_w7 pb1_w7 pbL_w7 at0_w7 at1_w7 at2_w7 at3_w7 atL_w7 rsF_w7 rs0_w7 rs1_w7 rsL_w7 otF_w7 ot0_w7 ot1_w7 otL_w7 oP_w7 oB_w7 acc_w7 ac3_w7 hb8
  go_wp2_with fail
  refine (HBI.out _ acc_w8.out).mono ?_
  rintro e w9 ⟨a9, c9, rfl, _, hb9⟩
  have pb0_w9 := (hb9.cell pbL_w8).trans pb0_w8
  have pb1_w9 := (hb9.cell pbL_w8).trans pb1_w8
  have pbF_w9 : ∀ o, w9.frozen? ⟨w.heap.size, o, none⟩ = false := fun o => (hb9.frozen pbL_w8).trans (pbF_w8 o)
  have pbL_w9 : w.heap.size < w9.heap.size := Nat.lt_of_lt_of_le pbL_w8 hb9.size
  have at0_w9 := (hb9.cell atL_w8).trans at0_w8
  have at1_w9 := (hb9.cell atL_w8).trans at1_w8
  have at2_w9 := (hb9.cell atL_w8).trans at2_w8
  have at3_w9 := (hb9.cell atL_w8).trans at3_w8
  have atL_w9 : w.heap.size + 1 < w9.heap.size := Nat.lt_of_lt_of_le atL_w8 hb9.size
  have rs0_w9 := (hb9.cell rsL_w8).trans rs0_w8
  have rs1_w9 := (hb9.cell rsL_w8).trans rs1_w8
  have rsF_w9 : ∀ o, w9.frozen? ⟨w.heap.size + 1 + 1, o, none⟩ = false := fun o => (hb9.frozen rsL_w8).trans (rsF_w8 o)
  have rsL_w9 : w.heap.size + 1 + 1 < w9.heap.size := Nat.lt_of_lt_of_le rsL_w8 hb9.size
  have ot0_w9 := (hb9.cell otL_w8).trans ot0_w8
  have ot1_w9 := (hb9.cell otL_w8).trans ot1_w8
  have otF_w9 : ∀ o, w9.frozen? ⟨w4.heap.size, o, none⟩ = false := fun o => (hb9.frozen otL_w8).trans (otF_w8 o)
  have otL_w9 : w4.heap.size < w9.heap.size := Nat.lt_of_lt_of_le otL_w8 hb9.size
  have oP_w9 := hidP (OwnG.later oP_w8.out hb9)
  have oB_w9 := hidP (OwnG.later oB_w8.out hb9)
  have acc_w9 := hidP (acc_w8.out.trans (hb9.mono acc_w8.out.size))
  have ac3_w9 := hidP (ac3_w8.out.trans (hb9.mono ac3_w8.out.size))
  clear pbF_w8 pb0_w8 pb1_w8 pbL_w8 at0_w8 at1_w8 at2_w8 at3_w8 atL_w8 rsF_w8 rs0_w8 rs1_w8 rsL_w8 otF_w8 ot0_w8 ot1_w8 otL_w8 oP_w8 oB_w8 acc_w8 ac3_w8 hb9
  generalize (fil bs pt).length = F at *
  go_wp2_with fail
  refine bodyPost_ret (v := .tuple #[.agg #[.slice a np c, .slice b nb d], .int .i64 6]) (by simp [results, Try.results21, go_sem, rs0_w9, rs1_w9]) rfl ⟨_, _, _, _, rfl, (OwnG.set2 oP_w9.out kL9).mono (Nat.le_of_lt UL9), (OwnG.set2 oB_w9.out kL9).mono (Nat.le_of_lt UL9), HNE.out, below_set2 acc_w9.out (by omega)⟩

end Go.Proofs.Ythbpehpnikknlaa

namespace Go.Proofs.Ythbpehpnikknlaa
open Go.RowKit

set_option maxRecDepth 10000 in
set_option maxHeartbeats 4000000 in
theorem sDrop_e0 (pt : Pf) (g h : Nat) (np nb : Nat) (ps : List Pl) (bs : List Bk) (w : World) (hnp : np = ps.length) (hnb : nb = bs.length) (hP : RowG KPl w (some ⟨g, 0, none⟩) ps) (hK : RowG KBk w (some ⟨h, 0, none⟩) bs) (hl : np ≤ 1048576) (hl' : nb ≤ 1048576) (hst : ∀ q ∈ bs, q.t.size ≤ 9223372036854775807) (hr : planB ps bs = true) (hk : pt.pk = true) (i : Nat) (hi : i < np) (hcj : np = i + 1) (hp : plc pt ps = (i : Int)) (hu : (fil bs pt).length = 0) :
    Calls Try.prog 21 #[.agg #[.slice (some ⟨g, 0, none⟩) np np, .slice (some ⟨h, 0, none⟩) nb nb], .agg #[.bool pt.s, .int .i64 pt.H.toInt, .int .i64 pt.L.toInt, .int .i64 pt.b]] w fun e w' => ∃ a c b d, e = .returned (.tuple #[.agg #[.slice a (np - 1) c, .slice b nb d], .int .i64 (0)]) ∧ OwnG KPl 48 w' w.heap.size (.slice a (np - 1) c) (ps.eraseIdx i) ∧ OwnG KBk 56 w' w.heap.size (.slice b nb d) (bs) ∧ (∀ k, (Value.slice a (np - 1) c).ownBlock = some k → (Value.slice b nb d).ownBlock ≠ some k) ∧ Below w.heap.size w w' := by
  have HOw := hidP (fun W h' => l5Copy_any (some ⟨g, 0, none⟩) np np (some ⟨h, 0, none⟩) nb nb ps bs W hnp hnb (hP.later h') (hK.later h') (fun e => by cases e) (fun e => by cases e) hl hl')
  have HPO := hidP (fun W h' => sPlanOk_any (some ⟨g, 0, none⟩) np np (some ⟨h, 0, none⟩) nb nb ps bs W hnp hnb (hP.later h') (hK.later h') (by omega) (by omega) hst)
  have HPk := hidP (sPrefixOk_any pt.s pt.H pt.L pt.b)
  change Hid (∀ w, Calls Try.prog 41 _ w fun e w' => e = .returned (.bool pt.pk) ∧ Below w.heap.size w w') at HPk
  have hd : Dsj ps := (pools_dsj ps none (fun _ h => by cases h) (by have hr' := hr; unfold planB at hr'; rw [Bool.and_eq_true, Bool.and_eq_true (poolsF none ps)] at hr'; exact hr'.2.1)).1
  have HPl := hidP (fun W h' => l5Exact_any pt hk (some ⟨g, 0, none⟩) np np (some ⟨h, 0, none⟩) nb nb ps hd W hnp (hP.later h') (by omega))
  have HBI := hidP (fun W h' => l5Blocks_any pt (some ⟨g, 0, none⟩) np np (some ⟨h, 0, none⟩) nb nb bs W hnb (hK.later h') hl')
  have HN := hidP (And.intro hnp hnb)
  have HRP := hidP hP
  clear hP hK hnp hnb hst
  rw [hr] at HPO
  rw [hk] at HPk
  rw [hp] at HPl
  rw [hu] at HBI
  have gi : decide ((i : Int) < 0) = false := decide_eq_false (by omega)
  have wi : IntKind.i64.wrap ((i : Int) + 1) = (i : Int) + 1 := by rw [IntKind.wrap_i64]; omega
  have b1 : (i : Int) ≤ (np : Int) := by omega
  have b3 : (0 : Int) ≤ (i : Int) + 1 := by omega
  have b4 : (i : Int) + 1 ≤ (np : Int) := by omega
  have hl1 : (ps.take i).length = i := by rw [List.length_take]; have := HN.out; omega
  have hl2 : (ps.drop (i + 1)).length = np - (i + 1) := by rw [List.length_drop, HN.out.1]
  have HL := hidP (And.intro hl1 hl2)
  clear hl1 hl2
  subst hcj
  have b2 : (i : Int) ≤ (i : Int) + 1 := by omega
  go_enter Try.func21, Try.ntmps21
  go_wp2_with fail
  have uF := frz2 w 32 (.slice (some ⟨g, 0, none⟩) (i + 1) (i + 1)) (.slice (some ⟨h, 0, none⟩) nb nb)
  obtain ⟨u0, u1⟩ := box2 (u := .slice (some ⟨g, 0, none⟩) (i + 1) (i + 1)) (v := .slice (some ⟨h, 0, none⟩) nb nb) w 32
  have uB := alloc_below w (.cells #[.slice (some ⟨g, 0, none⟩) (i + 1) (i + 1), .slice (some ⟨h, 0, none⟩) nb nb] 32)
  have uL := alloc_lt w (.cells #[.slice (some ⟨g, 0, none⟩) (i + 1) (i + 1), .slice (some ⟨h, 0, none⟩) nb nb] 32)
  have uS : (w.alloc (.cells #[.slice (some ⟨g, 0, none⟩) (i + 1) (i + 1), .slice (some ⟨h, 0, none⟩) nb nb] 32)).heap.size = w.heap.size + 1 := by simp
  generalize w.alloc (.cells #[.slice (some ⟨g, 0, none⟩) (i + 1) (i + 1), .slice (some ⟨h, 0, none⟩) nb nb] 32) = W1 at *
  obtain ⟨y0, y1, y2, y3⟩ := box4 (p := pt) W1 46
  have yB := alloc_below W1 (.cells #[.bool pt.s, .int .i64 pt.H.toInt, .int .i64 pt.L.toInt, .int .i64 pt.b] 46)
  have yL := alloc_lt W1 (.cells #[.bool pt.s, .int .i64 pt.H.toInt, .int .i64 pt.L.toInt, .int .i64 pt.b] 46)
  have yS : (W1.alloc (.cells #[.bool pt.s, .int .i64 pt.H.toInt, .int .i64 pt.L.toInt, .int .i64 pt.b] 46)).heap.size = W1.heap.size + 1 := by simp
  generalize W1.alloc (.cells #[.bool pt.s, .int .i64 pt.H.toInt, .int .i64 pt.L.toInt, .int .i64 pt.b] 46) = W2 at *
  rw [uS] at y0 y1 y2 y3 yL yS
  have kF := frz2 W2 32 (.slice none 0 0) (.slice none 0 0)
  obtain ⟨k0, k1⟩ := box2 (u := .slice none 0 0) (v := .slice none 0 0) W2 32
  have kB := alloc_below W2 (.cells #[.slice none 0 0, .slice none 0 0] 32)
  have kL := alloc_lt W2 (.cells #[.slice none 0 0, .slice none 0 0] 32)
  have kS : (W2.alloc (.cells #[.slice none 0 0, .slice none 0 0] 32)).heap.size = W2.heap.size + 1 := by simp
  generalize W2.alloc (.cells #[.slice none 0 0, .slice none 0 0] 32) = W3 at *
  rw [yS] at k0 k1 kL kS
  rw [yS] at kF
  have l0 : w.heap.size < W2.heap.size := by omega
  have l1 : w.heap.size + 1 < W2.heap.size := by omega
  have U0 := (kB.cell l0).trans ((yB.cell uL).trans u0)
  have U1 := (kB.cell l0).trans ((yB.cell uL).trans u1)
  have UF : ∀ o, W3.frozen? ⟨w.heap.size, o, none⟩ = false := fun o => (kB.frozen l0).trans ((yB.frozen uL).trans (uF o))
  have Y0 := (kB.cell l1).trans y0
  have Y1 := (kB.cell l1).trans y1
  have Y2 := (kB.cell l1).trans y2
  have Y3 := (kB.cell l1).trans y3
  have acc0 := hidP ((uB.trans (yB.mono uB.size)).trans (kB.mono (Nat.le_trans uB.size yB.size)))
  have UL : w.heap.size < W3.heap.size := by omega
  have YL : w.heap.size + 1 < W3.heap.size := by omega
  have kL3 : w.heap.size + 1 + 1 < W3.heap.size := by omega
  have UL9 := UL
  have kL9 := kL3
  clear uB yB kB uS yS kS u0 u1 y0 y1 y2 y3 uL yL kL uF l0 l1
  have U0c := U0
  have ac3_W3 := hidP (Below.refl W3.heap.size W3)
  refine (HOw.out _ acc0.out).mono ?_
  rintro e w4 ⟨a, c, b, d, rfl, op, ob, hne, hb4⟩
  have pb0_w4 := (hb4.cell UL).trans U0
  have pb1_w4 := (hb4.cell UL).trans U1
  have pbF_w4 : ∀ o, w4.frozen? ⟨w.heap.size, o, none⟩ = false := fun o => (hb4.frozen UL).trans (UF o)
  have pbL_w4 : w.heap.size < w4.heap.size := Nat.lt_of_lt_of_le UL hb4.size
  have at0_w4 := (hb4.cell YL).trans Y0
  have at1_w4 := (hb4.cell YL).trans Y1
  have at2_w4 := (hb4.cell YL).trans Y2
  have at3_w4 := (hb4.cell YL).trans Y3
  have atL_w4 : w.heap.size + 1 < w4.heap.size := Nat.lt_of_lt_of_le YL hb4.size
  have rs0_w4 := (hb4.cell kL3).trans k0
  have rs1_w4 := (hb4.cell kL3).trans k1
  have rsF_w4 : ∀ o, w4.frozen? ⟨w.heap.size + 1 + 1, o, none⟩ = false := fun o => (hb4.frozen kL3).trans (kF o)
  have rsL_w4 : w.heap.size + 1 + 1 < w4.heap.size := Nat.lt_of_lt_of_le kL3 hb4.size
  have acc_w4 := hidP (acc0.out.trans (hb4.mono acc0.out.size))
  have ac3_w4 := hidP (ac3_W3.out.trans (hb4.mono ac3_W3.out.size))
  have w43c := hb4.size
  have HLB4 := hidP (fun j hj => (OwnG.lt ob j hj).2)
  have oP_w4 := hidP op
  have oB_w4 := hidP ob
  have HNE := hidP hne
  clear UF U0 U1 UL Y0 Y1 Y2 Y3 YL kF k0 k1 kL3 acc0 ac3_W3 hb4 op ob hne
  go_wp2_with fail
  have oF := frz2 w4 32 (.slice a (i + 1) c) (.slice b nb d)
  obtain ⟨o0, o1⟩ := box2 (u := .slice a (i + 1) c) (v := .slice b nb d) w4 32
  have oB := alloc_below w4 (.cells #[.slice a (i + 1) c, .slice b nb d] 32)
  have oL := alloc_lt w4 (.cells #[.slice a (i + 1) c, .slice b nb d] 32)
  have oS : (w4.alloc (.cells #[.slice a (i + 1) c, .slice b nb d] 32)).heap.size = w4.heap.size + 1 := by simp
  generalize w4.alloc (.cells #[.slice a (i + 1) c, .slice b nb d] 32) = W5 at *
  have hb5 := oB
  have pb0_W5 := (hb5.cell pbL_w4).trans pb0_w4
  have pb1_W5 := (hb5.cell pbL_w4).trans pb1_w4
  have pbF_W5 : ∀ o, W5.frozen? ⟨w.heap.size, o, none⟩ = false := fun o => (hb5.frozen pbL_w4).trans (pbF_w4 o)
  have pbL_W5 : w.heap.size < W5.heap.size := Nat.lt_of_lt_of_le pbL_w4 hb5.size
  have at0_W5 := (hb5.cell atL_w4).trans at0_w4
  have at1_W5 := (hb5.cell atL_w4).trans at1_w4
  have at2_W5 := (hb5.cell atL_w4).trans at2_w4
  have at3_W5 := (hb5.cell atL_w4).trans at3_w4
  have atL_W5 : w.heap.size + 1 < W5.heap.size := Nat.lt_of_lt_of_le atL_w4 hb5.size
  have rs0_W5 := (hb5.cell rsL_w4).trans rs0_w4
  have rs1_W5 := (hb5.cell rsL_w4).trans rs1_w4
  have rsF_W5 : ∀ o, W5.frozen? ⟨w.heap.size + 1 + 1, o, none⟩ = false := fun o => (hb5.frozen rsL_w4).trans (rsF_w4 o)
  have rsL_W5 : w.heap.size + 1 + 1 < W5.heap.size := Nat.lt_of_lt_of_le rsL_w4 hb5.size
  have oP_W5 := hidP (OwnG.later oP_w4.out hb5)
  have oB_W5 := hidP (OwnG.later oB_w4.out hb5)
  have acc_W5 := hidP (acc_w4.out.trans (hb5.mono acc_w4.out.size))
  have ac3_W5 := hidP (ac3_w4.out.trans (hb5.mono ac3_w4.out.size))
  clear pbF_w4 pb0_w4 pb1_w4 pbL_w4 at0_w4 at1_w4 at2_w4 at3_w4 atL_w4 rsF_w4 rs0_w4 rs1_w4 rsL_w4 oP_w4 oB_w4 acc_w4 ac3_w4 hb5 oB oS
  refine (HPO.out _ acc_W5.out).mono ?_
  rintro e w6 ⟨rfl, hb6⟩
  have pb0_w6 := (hb6.cell pbL_W5).trans pb0_W5
  have pb1_w6 := (hb6.cell pbL_W5).trans pb1_W5
  have pbF_w6 : ∀ o, w6.frozen? ⟨w.heap.size, o, none⟩ = false := fun o => (hb6.frozen pbL_W5).trans (pbF_W5 o)
  have pbL_w6 : w.heap.size < w6.heap.size := Nat.lt_of_lt_of_le pbL_W5 hb6.size
  have at0_w6 := (hb6.cell atL_W5).trans at0_W5
  have at1_w6 := (hb6.cell atL_W5).trans at1_W5
  have at2_w6 := (hb6.cell atL_W5).trans at2_W5
  have at3_w6 := (hb6.cell atL_W5).trans at3_W5
  have atL_w6 : w.heap.size + 1 < w6.heap.size := Nat.lt_of_lt_of_le atL_W5 hb6.size
  have rs0_w6 := (hb6.cell rsL_W5).trans rs0_W5
  have rs1_w6 := (hb6.cell rsL_W5).trans rs1_W5
  have rsF_w6 : ∀ o, w6.frozen? ⟨w.heap.size + 1 + 1, o, none⟩ = false := fun o => (hb6.frozen rsL_W5).trans (rsF_W5 o)
  have rsL_w6 : w.heap.size + 1 + 1 < w6.heap.size := Nat.lt_of_lt_of_le rsL_W5 hb6.size
  have ot0_w6 := (hb6.cell oL).trans o0
  have ot1_w6 := (hb6.cell oL).trans o1
  have otF_w6 : ∀ o, w6.frozen? ⟨w4.heap.size, o, none⟩ = false := fun o => (hb6.frozen oL).trans (oF o)
  have otL_w6 : w4.heap.size < w6.heap.size := Nat.lt_of_lt_of_le oL hb6.size
  have oP_w6 := hidP (OwnG.later oP_W5.out hb6)
  have oB_w6 := hidP (OwnG.later oB_W5.out hb6)
  have acc_w6 := hidP (acc_W5.out.trans (hb6.mono acc_W5.out.size))
  have ac3_w6 := hidP (ac3_W5.out.trans (hb6.mono ac3_W5.out.size))
  clear pbF_W5 pb0_W5 pb1_W5 pbL_W5 at0_W5 at1_W5 at2_W5 at3_W5 atL_W5 rsF_W5 rs0_W5 rs1_W5 rsL_W5 oF o0 o1 oL oP_W5 oB_W5 acc_W5 ac3_W5 hb6
  go_wp2_with fail
  refine (HPk.out _).mono ?_
  rintro e w7 ⟨rfl, hb7⟩
  have pb0_w7 := (hb7.cell pbL_w6).trans pb0_w6
  have pb1_w7 := (hb7.cell pbL_w6).trans pb1_w6
  have pbF_w7 : ∀ o, w7.frozen? ⟨w.heap.size, o, none⟩ = false := fun o => (hb7.frozen pbL_w6).trans (pbF_w6 o)
  have pbL_w7 : w.heap.size < w7.heap.size := Nat.lt_of_lt_of_le pbL_w6 hb7.size
  have at0_w7 := (hb7.cell atL_w6).trans at0_w6
  have at1_w7 := (hb7.cell atL_w6).trans at1_w6
  have at2_w7 := (hb7.cell atL_w6).trans at2_w6
  have at3_w7 := (hb7.cell atL_w6).trans at3_w6
  have atL_w7 : w.heap.size + 1 < w7.heap.size := Nat.lt_of_lt_of_le atL_w6 hb7.size
  have rs0_w7 := (hb7.cell rsL_w6).trans rs0_w6
  have rs1_w7 := (hb7.cell rsL_w6).trans rs1_w6
  have rsF_w7 : ∀ o, w7.frozen? ⟨w.heap.size + 1 + 1, o, none⟩ = false := fun o => (hb7.frozen rsL_w6).trans (rsF_w6 o)
  have rsL_w7 : w.heap.size + 1 + 1 < w7.heap.size := Nat.lt_of_lt_of_le rsL_w6 hb7.size
  have ot0_w7 := (hb7.cell otL_w6).trans ot0_w6
  have ot1_w7 := (hb7.cell otL_w6).trans ot1_w6
  have otF_w7 : ∀ o, w7.frozen? ⟨w4.heap.size, o, none⟩ = false := fun o => (hb7.frozen otL_w6).trans (otF_w6 o)
  have otL_w7 : w4.heap.size < w7.heap.size := Nat.lt_of_lt_of_le otL_w6 hb7.size
  have oP_w7 := hidP (OwnG.later oP_w6.out hb7)
  have oB_w7 := hidP (OwnG.later oB_w6.out hb7)
  have acc_w7 := hidP (acc_w6.out.trans (hb7.mono acc_w6.out.size))
  have ac3_w7 := hidP (ac3_w6.out.trans (hb7.mono ac3_w6.out.size))
  clear pbF_w6 pb0_w6 pb1_w6 pbL_w6 at0_w6 at1_w6 at2_w6 at3_w6 atL_w6 rsF_w6 rs0_w6 rs1_w6 rsL_w6 otF_w6 ot0_w6 ot1_w6 otL_w6 oP_w6 oB_w6 acc_w6 ac3_w6 hb7
  go_wp2_with fail
  refine (HPl.out _ acc_w7.out).mono ?_
  rintro e w8 ⟨rfl, hb8⟩
  have pb0_w8 := (hb8.cell pbL_w7).trans pb0_w7
  have pb1_w8 := (hb8.cell pbL_w7).trans pb1_w7
  have pbF_w8 : ∀ o, w8.frozen? ⟨w.heap.size, o, none⟩ = false := fun o => (hb8.frozen pbL_w7).trans (pbF_w7 o)
  have pbL_w8 : w.heap.size < w8.heap.size := Nat.lt_of_lt_of_le pbL_w7 hb8.size
  have at0_w8 := (hb8.cell atL_w7).trans at0_w7
  have at1_w8 := (hb8.cell atL_w7).trans at1_w7
  have at2_w8 := (hb8.cell atL_w7).trans at2_w7
  have at3_w8 := (hb8.cell atL_w7).trans at3_w7
  have atL_w8 : w.heap.size + 1 < w8.heap.size := Nat.lt_of_lt_of_le atL_w7 hb8.size
  have rs0_w8 := (hb8.cell rsL_w7).trans rs0_w7
  have rs1_w8 := (hb8.cell rsL_w7).trans rs1_w7
  have rsF_w8 : ∀ o, w8.frozen? ⟨w.heap.size + 1 + 1, o, none⟩ = false := fun o => (hb8.frozen rsL_w7).trans (rsF_w7 o)
  have rsL_w8 : w.heap.size + 1 + 1 < w8.heap.size := Nat.lt_of_lt_of_le rsL_w7 hb8.size
  have ot0_w8 := (hb8.cell otL_w7).trans ot0_w7
  have ot1_w8 := (hb8.cell otL_w7).trans ot1_w7
  have otF_w8 : ∀ o, w8.frozen? ⟨w4.heap.size, o, none⟩ = false := fun o => (hb8.frozen otL_w7).trans (otF_w7 o)
  have otL_w8 : w4.heap.size < w8.heap.size := Nat.lt_of_lt_of_le otL_w7 hb8.size
  have oP_w8 := hidP (OwnG.later oP_w7.out hb8)
  have oB_w8 := hidP (OwnG.later oB_w7.out hb8)
  have acc_w8 := hidP (acc_w7.out.trans (hb8.mono acc_w7.out.size))
  have ac3_w8 := hidP (ac3_w7.out.trans (hb8.mono ac3_w7.out.size))
  clear pbF_w7 pb0_w7 pb1_w7 pbL_w7 at0_w7 at1_w7 at2_w7 at3_w7 atL_w7 rsF_w7 rs0_w7 rs1_w7 rsL_w7 otF_w7 ot0_w7 ot1_w7 otL_w7 oP_w7 oB_w7 acc_w7 ac3_w7 hb8
  go_wp2_with fail
  refine (HBI.out _ acc_w8.out).mono ?_
  rintro e w9 ⟨a9, c9, rfl, _, hb9⟩
  have pb0_w9 := (hb9.cell pbL_w8).trans pb0_w8
  have pb1_w9 := (hb9.cell pbL_w8).trans pb1_w8
  have pbF_w9 : ∀ o, w9.frozen? ⟨w.heap.size, o, none⟩ = false := fun o => (hb9.frozen pbL_w8).trans (pbF_w8 o)
  have pbL_w9 : w.heap.size < w9.heap.size := Nat.lt_of_lt_of_le pbL_w8 hb9.size
  have at0_w9 := (hb9.cell atL_w8).trans at0_w8
  have at1_w9 := (hb9.cell atL_w8).trans at1_w8
  have at2_w9 := (hb9.cell atL_w8).trans at2_w8
  have at3_w9 := (hb9.cell atL_w8).trans at3_w8
  have atL_w9 : w.heap.size + 1 < w9.heap.size := Nat.lt_of_lt_of_le atL_w8 hb9.size
  have rs0_w9 := (hb9.cell rsL_w8).trans rs0_w8
  have rs1_w9 := (hb9.cell rsL_w8).trans rs1_w8
  have rsF_w9 : ∀ o, w9.frozen? ⟨w.heap.size + 1 + 1, o, none⟩ = false := fun o => (hb9.frozen rsL_w8).trans (rsF_w8 o)
  have rsL_w9 : w.heap.size + 1 + 1 < w9.heap.size := Nat.lt_of_lt_of_le rsL_w8 hb9.size
  have ot0_w9 := (hb9.cell otL_w8).trans ot0_w8
  have ot1_w9 := (hb9.cell otL_w8).trans ot1_w8
  have otF_w9 : ∀ o, w9.frozen? ⟨w4.heap.size, o, none⟩ = false := fun o => (hb9.frozen otL_w8).trans (otF_w8 o)
  have otL_w9 : w4.heap.size < w9.heap.size := Nat.lt_of_lt_of_le otL_w8 hb9.size
  have oP_w9 := hidP (OwnG.later oP_w8.out hb9)
  have oB_w9 := hidP (OwnG.later oB_w8.out hb9)
  have acc_w9 := hidP (acc_w8.out.trans (hb9.mono acc_w8.out.size))
  have ac3_w9 := hidP (ac3_w8.out.trans (hb9.mono ac3_w8.out.size))
  clear pbF_w8 pb0_w8 pb1_w8 pbL_w8 at0_w8 at1_w8 at2_w8 at3_w8 atL_w8 rsF_w8 rs0_w8 rs1_w8 rsL_w8 otF_w8 ot0_w8 ot1_w8 otL_w8 oP_w8 oB_w8 acc_w8 ac3_w8 hb9
  go_wp2_with fail
  have HSx : Hid (∀ x, Below W3.heap.size W3 x → (x.cell? ⟨w.heap.size, 0, none⟩ = some (.slice (some ⟨g, 0, none⟩) (i + 1) (i + 1)) ∧ Below W3.heap.size W3 x)) := hidP fun x h =>
    ⟨(h.cell UL9).trans U0c, h⟩
  refine wp_region_held_drew (S := (fun x => x.cell? ⟨w.heap.size, 0, none⟩ = some (.slice (some ⟨g, 0, none⟩) (i + 1) (i + 1)) ∧ Below W3.heap.size W3 x)) (by kernel_rfl) ?_ (fun hHeld => ?_)
  · try dsimp only
    exact HSx.out _ (ac3_w9.out.drew)
  refine wpAnyH_take (i := 1) (oi := ⟨some 34, _, _, _, _, _⟩) (v := ?_) rfl (by kernel_rfl) (by kernel_rfl) (by kernel_rfl) (fun _ _ _ h => h) (Or.inl ⟨by rfl, ?_⟩) (by assumption) ?_
  rotate_left
  · intro w hSw
    try dsimp only at hSw
    go_simp
    try with_reducible rfl
  simp only [Act.put, List.setIfInBounds_toArray, List.set_cons_zero, List.set_cons_succ]
  refine wpAnyH_take (i := 2) (oi := ⟨some 35, _, _, _, _, _⟩) (v := ?_) rfl (by kernel_rfl) (by kernel_rfl) (by kernel_rfl) (fun _ _ _ h => h) (Or.inl ⟨by rfl, ?_⟩) (by assumption) ?_
  rotate_left
  · intro w hSw
    try dsimp only at hSw
    go_simp
    try with_reducible rfl
  simp only [Act.put, List.setIfInBounds_toArray, List.set_cons_zero, List.set_cons_succ]
  refine wpAnyH_take (i := 3) (oi := ⟨some 36, _, _, _, _, _⟩) (v := ?_) rfl (by kernel_rfl) (by kernel_rfl) (by kernel_rfl) (fun _ _ _ h => h) (Or.inl ⟨by rfl, ?_⟩) (by assumption) ?_
  rotate_left
  · intro w hSw
    try dsimp only at hSw
    go_simp
    try with_reducible rfl
  simp only [Act.put, List.setIfInBounds_toArray, List.set_cons_zero, List.set_cons_succ]
  refine wpAnyH_take (i := 4) (oi := ⟨some 37, _, _, _, _, _⟩) (v := ?_) rfl (by kernel_rfl) (by kernel_rfl) (by kernel_rfl) (fun _ _ _ h => h) (Or.inl ⟨by rfl, ?_⟩) (by assumption) ?_
  rotate_left
  · intro w hSw
    try dsimp only at hSw
    go_simp
    try with_reducible rfl
  simp only [Act.put, List.setIfInBounds_toArray, List.set_cons_zero, List.set_cons_succ]
  refine wpAnyH_take (i := 6) (oi := ⟨some 39, _, _, _, _, _⟩) (v := ?_) rfl (by kernel_rfl) (by kernel_rfl) (by kernel_rfl) (fun _ _ _ h => h) (Or.inl ⟨by rfl, ?_⟩) (by assumption) ?_
  rotate_left
  · intro w hSw
    try dsimp only at hSw
    go_simp
    try with_reducible rfl
  simp only [Act.put, List.setIfInBounds_toArray, List.set_cons_zero, List.set_cons_succ]
  refine wpAnyH_take (i := 7) (oi := ⟨some 40, _, _, _, _, _⟩) (v := ?_) rfl (by kernel_rfl) (by kernel_rfl) (by kernel_rfl) (fun _ _ _ h => h) (Or.inl ⟨by rfl, ?_⟩) (by assumption) ?_
  rotate_left
  · intro w hSw
    try dsimp only at hSw
    go_simp
    try with_reducible rfl
  simp only [Act.put, List.setIfInBounds_toArray, List.set_cons_zero, List.set_cons_succ]
  refine wpAnyH_take (i := 8) (oi := ⟨some 41, _, _, _, _, _⟩) (v := ?_) rfl (by kernel_rfl) (by kernel_rfl) (by kernel_rfl) (fun _ _ _ h => h) (Or.inl ⟨by rfl, ?_⟩) (by assumption) ?_
  rotate_left
  · intro w hSw
    try dsimp only at hSw
    go_simp
    try with_reducible rfl
  simp only [Act.put, List.setIfInBounds_toArray, List.set_cons_zero, List.set_cons_succ]
  refine wpAnyH_take (i := 9) (oi := ⟨some 42, _, _, _, _, _⟩) (v := ?_) rfl (by kernel_rfl) (by kernel_rfl) (by kernel_rfl) (fun _ _ _ h => h) (Or.inl ⟨by rfl, ?_⟩) (by assumption) ?_
  rotate_left
  · intro w hSw
    try dsimp only at hSw
    go_simp
    try with_reducible rfl
  simp only [Act.put, List.setIfInBounds_toArray, List.set_cons_zero, List.set_cons_succ]
  refine wpAnyH_take (i := 10) (oi := ⟨some 43, _, _, _, _, _⟩) (v := ?_) rfl (by kernel_rfl) (by kernel_rfl) (by kernel_rfl) (fun _ _ _ h => h) (Or.inl ⟨by rfl, ?_⟩) (by assumption) ?_
  rotate_left
  · intro w hSw
    try dsimp only at hSw
    go_simp
    try with_reducible rfl
  simp only [Act.put, List.setIfInBounds_toArray, List.set_cons_zero, List.set_cons_succ]
  refine wpAnyH_ready (rs := [0]) (by kernel_rfl) (by simp) ?_
  refine AllReadyH.cons rfl (fun K hK => ?_) AllReadyH.nil
  go_simp
  have z1 := OwnG.drewG (own_zeroG KPl w9 w9.heap.size 48 (Nat.le_refl _))
  have zb1 := (alloc_below w9 (.cells #[] 48)).drew
  have zs1 : w9.heap.size + 1 ≤ (w9.alloc (.cells #[] 48)).drew.heap.size := by show w9.heap.size + 1 ≤ (w9.alloc (.cells #[] 48)).heap.size; simp
  have bel1 := ac3_w9.out.trans (zb1.mono ac3_w9.out.size)
  generalize (w9.alloc (.cells #[] 48)).drew = v1 at *
  refine hK.out _ _ ?_ (fun hHeld => ?_)
  · try dsimp only
    exact HSx.out _ bel1
  clear hK K
  refine wpAnyH_ready (rs := [5]) (by kernel_rfl) (by simp) ?_
  refine AllReadyH.cons rfl (fun K hK => ?_) AllReadyH.nil
  have rw1 : Below w.heap.size w v1 := acc_w9.out.trans (zb1.mono acc_w9.out.size)
  refine step_appG Try.tyPl _ rfl (.tmp 33) (.tmp 37) 29 rfl w9.heap.size (some ⟨w9.heap.size, 0, none⟩) 0 0 i [] (ps.take i) (.slice (some ⟨g, 0, none⟩) i (i + 1)) rfl rfl HL.out.1.symm z1 rfl (src_rowG Try.tyPl.1 i (i + 1) (by show 0 < 5; omega) HL.out.1.symm (RowG.takeG (HRP.out.later rw1) i) (fun e => by cases e)) (by omega) (by omega) ?_
  intro a2 c2 v2 ho2 hg2 ht2
  rw [Nat.zero_add, List.nil_append] at ho2
  have zs2 := hg2.size
  have bel2 := Below.grown bel1 hg2 bel1.size (fun j hj => by rw [ob_some, Option.some.injEq] at hj; have := ac3_w9.out.size; omega)
  have zb2 := Below.grown zb1 hg2 zb1.size (fun j hj => by rw [ob_some, Option.some.injEq] at hj; omega)
  rw [Nat.zero_add]
  refine hK.out _ _ ?_ (fun hHeld => ?_)
  · try dsimp only
    exact HSx.out _ bel2
  clear hK K
  refine wpAnyH_ready (rs := [11]) (by kernel_rfl) (by simp) ?_
  refine AllReadyH.cons rfl (fun K hK => ?_) AllReadyH.nil
  have rw2 : Below w.heap.size w v2 := acc_w9.out.trans (zb2.mono acc_w9.out.size)
  refine step_appG Try.tyPl _ rfl (.tmp 38) (.tmp 43) 29 rfl w9.heap.size a2 i c2 ((i + 1) - (i + 1)) (ps.take i) (ps.drop (i + 1)) (.slice (some ⟨g, 0, none⟩) ((i + 1) - (i + 1)) 0) rfl HL.out.1.symm HL.out.2.symm ho2 (by rw [Nat.sub_self]; rfl) (src_rowG Try.tyPl.1 _ _ (by show 0 < 5; omega) HL.out.2.symm (fun j hj => by rw [HL.out.2] at hj; omega) (fun e => by cases e)) (by omega) (by omega) ?_
  intro a3 c3 v3 ho3 hg3 ht3
  have lo2 := fun j hj => (OwnG.lt ho2 j hj).1
  have bel3 := Below.grown bel2 hg3 bel2.size (fun j hj => by have := lo2 j hj; have := ac3_w9.out.size; omega)
  have zb3 := Below.grown zb2 hg3 zb2.size (fun j hj => by have := lo2 j hj; omega)
  have heM : i + ((i + 1) - (i + 1)) = i := by omega
  rw [heM, erase_eq] at ho3
  rw [heM]
  refine hK.out _ _ ?_ (fun hHeld => ?_)
  · try dsimp only
    exact HSx.out _ bel3
  clear hK K
  refine wpAnyH_take (i := 12) (oi := ⟨some 45, _, _, _, _, _⟩) (v := ?_) rfl (by kernel_rfl) (by kernel_rfl) (by kernel_rfl) (fun _ _ _ h => h) (Or.inl ⟨by rfl, ?_⟩) (by assumption) ?_
  rotate_left
  · intro w hSw
    try dsimp only at hSw
    go_simp
    try with_reducible rfl
  simp only [Act.put, List.setIfInBounds_toArray]
  have t0 := (zb3.cell otL_w9).trans ot0_w9
  have t1 := (zb3.cell otL_w9).trans ot1_w9
  have tF : ∀ o, v3.frozen? ⟨w4.heap.size, o, none⟩ = false := fun o => (zb3.frozen otL_w9).trans (otF_w9 o)
  have s0 := (zb3.cell rsL_w9).trans rs0_w9
  have s1 := (zb3.cell rsL_w9).trans rs1_w9
  have sF : ∀ o, v3.frozen? ⟨w.heap.size + 1 + 1, o, none⟩ = false := fun o => (zb3.frozen rsL_w9).trans (rsF_w9 o)
  have w43 : W3.heap.size ≤ w4.heap.size := w43c
  refine wpAnyH_ready (rs := [13]) (by kernel_rfl) (by simp) ?_
  refine AllReadyH.cons rfl (fun K hK => ?_) AllReadyH.nil
  go_simp
  refine hK.out _ _ ?_ (fun hHeld => ?_)
  · try dsimp only
    exact HSx.out _ (bel3.setCell w43 _)
  clear hK K
  have HE := hidP (hHeld.2)
  refine wpAnyH_done (by kernel_rfl) ?_ _
  clear hHeld
  have r0 : (v3.setCell ⟨w4.heap.size, 0, none⟩ (.slice a3 i c3)).cell? ⟨w.heap.size + 1 + 1, 0, none⟩ = some (.slice none 0 0) := cell_set1 s0 (by omega)
  have r1 : (v3.setCell ⟨w4.heap.size, 0, none⟩ (.slice a3 i c3)).cell? ⟨w.heap.size + 1 + 1, 1, none⟩ = some (.slice none 0 0) := cell_set1 s1 (by omega)
  have rF : ∀ o, (v3.setCell ⟨w4.heap.size, 0, none⟩ (.slice a3 i c3)).frozen? ⟨w.heap.size + 1 + 1, o, none⟩ = false := fun o => frz_set1 (sF o) (by omega)
  have n0 : (v3.setCell ⟨w4.heap.size, 0, none⟩ (.slice a3 i c3)).cell? ⟨w4.heap.size, 0, none⟩ = some (.slice a3 i c3) := by simp [go_sem, t0]
  have n1 : (v3.setCell ⟨w4.heap.size, 0, none⟩ (.slice a3 i c3)).cell? ⟨w4.heap.size, 1, none⟩ = some (.slice b nb d) := by simp [go_sem, t1]
  have lB := fun j hj => (OwnG.lt oB_w9.out j hj).2
  have oP9 := hidP (OwnG.set1 (u := .slice a3 i c3) ho3 otL_w9)
  have oB9 := hidP (OwnG.grown (OwnG.later oB_w9.out zb3) (grown_cellG v3 w4.heap.size 0 (.slice a3 i c3)) (fun j hj e => by have := HLB4.out j hj; simp at e; omega))
  have ac9 := hidP (Below.setCell (p := ⟨w4.heap.size, 0, none⟩) (acc_w9.out.trans (zb3.mono acc_w9.out.size)) (show w.heap.size ≤ w4.heap.size by omega) (.slice a3 i c3))
  have lP := fun j hj => (OwnG.lt ho3 j hj).1
  have HD := hidP (And.intro lB lP)
  clear lB lP ho3 hg3 ht3 ho2 hg2 ht2 z1 t0 t1 tF s0 s1 sF
  generalize v3.setCell ⟨w4.heap.size, 0, none⟩ (.slice a3 i c3) = V at *
  go_wp2_with fail
  refine bodyPost_ret (v := .tuple #[.agg #[.slice a3 i c3, .slice b nb d], .int .i64 0]) (by simp [results, Try.results21, go_sem, r0, r1]) rfl ⟨_, _, _, _, rfl, (OwnG.set2 oP9.out (by omega)).mono (by omega), (OwnG.set2 oB9.out kL9).mono (Nat.le_of_lt UL9), (fun k h1 h2 => by have e1 := HD.out.2 k h1; have e2 := HD.out.1 k h2; omega), below_set2 ac9.out (by omega)⟩

end Go.Proofs.Ythbpehpnikknlaa

namespace Go.Proofs.Ythbpehpnikknlaa
open Go.RowKit

set_option maxRecDepth 10000 in
set_option maxHeartbeats 4000000 in
theorem sDrop_e1 (pt : Pf) (g h : Nat) (np nb : Nat) (ps : List Pl) (bs : List Bk) (w : World) (hnp : np = ps.length) (hnb : nb = bs.length) (hP : RowG KPl w (some ⟨g, 0, none⟩) ps) (hK : RowG KBk w (some ⟨h, 0, none⟩) bs) (hl : np ≤ 1048576) (hl' : nb ≤ 1048576) (hst : ∀ q ∈ bs, q.t.size ≤ 9223372036854775807) (hr : planB ps bs = true) (hk : pt.pk = true) (i : Nat) (hi : i < np) (hcj : ¬ np = i + 1) (hp : plc pt ps = (i : Int)) (hu : (fil bs pt).length = 0) :
    Calls Try.prog 21 #[.agg #[.slice (some ⟨g, 0, none⟩) np np, .slice (some ⟨h, 0, none⟩) nb nb], .agg #[.bool pt.s, .int .i64 pt.H.toInt, .int .i64 pt.L.toInt, .int .i64 pt.b]] w fun e w' => ∃ a c b d, e = .returned (.tuple #[.agg #[.slice a (np - 1) c, .slice b nb d], .int .i64 (0)]) ∧ OwnG KPl 48 w' w.heap.size (.slice a (np - 1) c) (ps.eraseIdx i) ∧ OwnG KBk 56 w' w.heap.size (.slice b nb d) (bs) ∧ (∀ k, (Value.slice a (np - 1) c).ownBlock = some k → (Value.slice b nb d).ownBlock ≠ some k) ∧ Below w.heap.size w w' := by
  have HOw := hidP (fun W h' => l5Copy_any (some ⟨g, 0, none⟩) np np (some ⟨h, 0, none⟩) nb nb ps bs W hnp hnb (hP.later h') (hK.later h') (fun e => by cases e) (fun e => by cases e) hl hl')
  have HPO := hidP (fun W h' => sPlanOk_any (some ⟨g, 0, none⟩) np np (some ⟨h, 0, none⟩) nb nb ps bs W hnp hnb (hP.later h') (hK.later h') (by omega) (by omega) hst)
  have HPk := hidP (sPrefixOk_any pt.s pt.H pt.L pt.b)
  change Hid (∀ w, Calls Try.prog 41 _ w fun e w' => e = .returned (.bool pt.pk) ∧ Below w.heap.size w w') at HPk
  have hd : Dsj ps := (pools_dsj ps none (fun _ h => by cases h) (by have hr' := hr; unfold planB at hr'; rw [Bool.and_eq_true, Bool.and_eq_true (poolsF none ps)] at hr'; exact hr'.2.1)).1
  have HPl := hidP (fun W h' => l5Exact_any pt hk (some ⟨g, 0, none⟩) np np (some ⟨h, 0, none⟩) nb nb ps hd W hnp (hP.later h') (by omega))
  have HBI := hidP (fun W h' => l5Blocks_any pt (some ⟨g, 0, none⟩) np np (some ⟨h, 0, none⟩) nb nb bs W hnb (hK.later h') hl')
  have HN := hidP (And.intro hnp hnb)
  have HRP := hidP hP
  clear hP hK hnp hnb hst
  rw [hr] at HPO
  rw [hk] at HPk
  rw [hp] at HPl
  rw [hu] at HBI
  have gi : decide ((i : Int) < 0) = false := decide_eq_false (by omega)
  have wi : IntKind.i64.wrap ((i : Int) + 1) = (i : Int) + 1 := by rw [IntKind.wrap_i64]; omega
  have b1 : (i : Int) ≤ (np : Int) := by omega
  have b3 : (0 : Int) ≤ (i : Int) + 1 := by omega
  have b4 : (i : Int) + 1 ≤ (np : Int) := by omega
  have hl1 : (ps.take i).length = i := by rw [List.length_take]; have := HN.out; omega
  have hl2 : (ps.drop (i + 1)).length = np - (i + 1) := by rw [List.length_drop, HN.out.1]
  have HL := hidP (And.intro hl1 hl2)
  clear hl1 hl2
  go_enter Try.func21, Try.ntmps21
  go_wp2_with fail
  have uF := frz2 w 32 (.slice (some ⟨g, 0, none⟩) np np) (.slice (some ⟨h, 0, none⟩) nb nb)
  obtain ⟨u0, u1⟩ := box2 (u := .slice (some ⟨g, 0, none⟩) np np) (v := .slice (some ⟨h, 0, none⟩) nb nb) w 32
  have uB := alloc_below w (.cells #[.slice (some ⟨g, 0, none⟩) np np, .slice (some ⟨h, 0, none⟩) nb nb] 32)
  have uL := alloc_lt w (.cells #[.slice (some ⟨g, 0, none⟩) np np, .slice (some ⟨h, 0, none⟩) nb nb] 32)
  have uS : (w.alloc (.cells #[.slice (some ⟨g, 0, none⟩) np np, .slice (some ⟨h, 0, none⟩) nb nb] 32)).heap.size = w.heap.size + 1 := by simp
  generalize w.alloc (.cells #[.slice (some ⟨g, 0, none⟩) np np, .slice (some ⟨h, 0, none⟩) nb nb] 32) = W1 at *
  obtain ⟨y0, y1, y2, y3⟩ := box4 (p := pt) W1 46
  have yB := alloc_below W1 (.cells #[.bool pt.s, .int .i64 pt.H.toInt, .int .i64 pt.L.toInt, .int .i64 pt.b] 46)
  have yL := alloc_lt W1 (.cells #[.bool pt.s, .int .i64 pt.H.toInt, .int .i64 pt.L.toInt, .int .i64 pt.b] 46)
  have yS : (W1.alloc (.cells #[.bool pt.s, .int .i64 pt.H.toInt, .int .i64 pt.L.toInt, .int .i64 pt.b] 46)).heap.size = W1.heap.size + 1 := by simp
  generalize W1.alloc (.cells #[.bool pt.s, .int .i64 pt.H.toInt, .int .i64 pt.L.toInt, .int .i64 pt.b] 46) = W2 at *
  rw [uS] at y0 y1 y2 y3 yL yS
  have kF := frz2 W2 32 (.slice none 0 0) (.slice none 0 0)
  obtain ⟨k0, k1⟩ := box2 (u := .slice none 0 0) (v := .slice none 0 0) W2 32
  have kB := alloc_below W2 (.cells #[.slice none 0 0, .slice none 0 0] 32)
  have kL := alloc_lt W2 (.cells #[.slice none 0 0, .slice none 0 0] 32)
  have kS : (W2.alloc (.cells #[.slice none 0 0, .slice none 0 0] 32)).heap.size = W2.heap.size + 1 := by simp
  generalize W2.alloc (.cells #[.slice none 0 0, .slice none 0 0] 32) = W3 at *
  rw [yS] at k0 k1 kL kS
  rw [yS] at kF
  have l0 : w.heap.size < W2.heap.size := by omega
  have l1 : w.heap.size + 1 < W2.heap.size := by omega
  have U0 := (kB.cell l0).trans ((yB.cell uL).trans u0)
  have U1 := (kB.cell l0).trans ((yB.cell uL).trans u1)
  have UF : ∀ o, W3.frozen? ⟨w.heap.size, o, none⟩ = false := fun o => (kB.frozen l0).trans ((yB.frozen uL).trans (uF o))
  have Y0 := (kB.cell l1).trans y0
  have Y1 := (kB.cell l1).trans y1
  have Y2 := (kB.cell l1).trans y2
  have Y3 := (kB.cell l1).trans y3
  have acc0 := hidP ((uB.trans (yB.mono uB.size)).trans (kB.mono (Nat.le_trans uB.size yB.size)))
  have UL : w.heap.size < W3.heap.size := by omega
  have YL : w.heap.size + 1 < W3.heap.size := by omega
  have kL3 : w.heap.size + 1 + 1 < W3.heap.size := by omega
  have UL9 := UL
  have kL9 := kL3
  clear uB yB kB uS yS kS u0 u1 y0 y1 y2 y3 uL yL kL uF l0 l1
  have U0c := U0
  have ac3_W3 := hidP (Below.refl W3.heap.size W3)
  refine (HOw.out _ acc0.out).mono ?_
  rintro e w4 ⟨a, c, b, d, rfl, op, ob, hne, hb4⟩
  have pb0_w4 := (hb4.cell UL).trans U0
  have pb1_w4 := (hb4.cell UL).trans U1
  have pbF_w4 : ∀ o, w4.frozen? ⟨w.heap.size, o, none⟩ = false := fun o => (hb4.frozen UL).trans (UF o)
  have pbL_w4 : w.heap.size < w4.heap.size := Nat.lt_of_lt_of_le UL hb4.size
  have at0_w4 := (hb4.cell YL).trans Y0
  have at1_w4 := (hb4.cell YL).trans Y1
  have at2_w4 := (hb4.cell YL).trans Y2
  have at3_w4 := (hb4.cell YL).trans Y3
  have atL_w4 : w.heap.size + 1 < w4.heap.size := Nat.lt_of_lt_of_le YL hb4.size
  have rs0_w4 := (hb4.cell kL3).trans k0
  have rs1_w4 := (hb4.cell kL3).trans k1
  have rsF_w4 : ∀ o, w4.frozen? ⟨w.heap.size + 1 + 1, o, none⟩ = false := fun o => (hb4.frozen kL3).trans (kF o)
  have rsL_w4 : w.heap.size + 1 + 1 < w4.heap.size := Nat.lt_of_lt_of_le kL3 hb4.size
  have acc_w4 := hidP (acc0.out.trans (hb4.mono acc0.out.size))
  have ac3_w4 := hidP (ac3_W3.out.trans (hb4.mono ac3_W3.out.size))
  have w43c := hb4.size
  have HLB4 := hidP (fun j hj => (OwnG.lt ob j hj).2)
  have oP_w4 := hidP op
  have oB_w4 := hidP ob
  have HNE := hidP hne
  clear UF U0 U1 UL Y0 Y1 Y2 Y3 YL kF k0 k1 kL3 acc0 ac3_W3 hb4 op ob hne
  go_wp2_with fail
  have oF := frz2 w4 32 (.slice a np c) (.slice b nb d)
  obtain ⟨o0, o1⟩ := box2 (u := .slice a np c) (v := .slice b nb d) w4 32
  have oB := alloc_below w4 (.cells #[.slice a np c, .slice b nb d] 32)
  have oL := alloc_lt w4 (.cells #[.slice a np c, .slice b nb d] 32)
  have oS : (w4.alloc (.cells #[.slice a np c, .slice b nb d] 32)).heap.size = w4.heap.size + 1 := by simp
  generalize w4.alloc (.cells #[.slice a np c, .slice b nb d] 32) = W5 at *
  have hb5 := oB
  have pb0_W5 := (hb5.cell pbL_w4).trans pb0_w4
  have pb1_W5 := (hb5.cell pbL_w4).trans pb1_w4
  have pbF_W5 : ∀ o, W5.frozen? ⟨w.heap.size, o, none⟩ = false := fun o => (hb5.frozen pbL_w4).trans (pbF_w4 o)
  have pbL_W5 : w.heap.size < W5.heap.size := Nat.lt_of_lt_of_le pbL_w4 hb5.size
  have at0_W5 := (hb5.cell atL_w4).trans at0_w4
  have at1_W5 := (hb5.cell atL_w4).trans at1_w4
  have at2_W5 := (hb5.cell atL_w4).trans at2_w4
  have at3_W5 := (hb5.cell atL_w4).trans at3_w4
  have atL_W5 : w.heap.size + 1 < W5.heap.size := Nat.lt_of_lt_of_le atL_w4 hb5.size
  have rs0_W5 := (hb5.cell rsL_w4).trans rs0_w4
  have rs1_W5 := (hb5.cell rsL_w4).trans rs1_w4
  have rsF_W5 : ∀ o, W5.frozen? ⟨w.heap.size + 1 + 1, o, none⟩ = false := fun o => (hb5.frozen rsL_w4).trans (rsF_w4 o)
  have rsL_W5 : w.heap.size + 1 + 1 < W5.heap.size := Nat.lt_of_lt_of_le rsL_w4 hb5.size
  have oP_W5 := hidP (OwnG.later oP_w4.out hb5)
  have oB_W5 := hidP (OwnG.later oB_w4.out hb5)
  have acc_W5 := hidP (acc_w4.out.trans (hb5.mono acc_w4.out.size))
  have ac3_W5 := hidP (ac3_w4.out.trans (hb5.mono ac3_w4.out.size))
  clear pbF_w4 pb0_w4 pb1_w4 pbL_w4 at0_w4 at1_w4 at2_w4 at3_w4 atL_w4 rsF_w4 rs0_w4 rs1_w4 rsL_w4 oP_w4 oB_w4 acc_w4 ac3_w4 hb5 oB oS
  refine (HPO.out _ acc_W5.out).mono ?_
  rintro e w6 ⟨rfl, hb6⟩
  have pb0_w6 := (hb6.cell pbL_W5).trans pb0_W5
  have pb1_w6 := (hb6.cell pbL_W5).trans pb1_W5
  have pbF_w6 : ∀ o, w6.frozen? ⟨w.heap.size, o, none⟩ = false := fun o => (hb6.frozen pbL_W5).trans (pbF_W5 o)
  have pbL_w6 : w.heap.size < w6.heap.size := Nat.lt_of_lt_of_le pbL_W5 hb6.size
  have at0_w6 := (hb6.cell atL_W5).trans at0_W5
  have at1_w6 := (hb6.cell atL_W5).trans at1_W5
  have at2_w6 := (hb6.cell atL_W5).trans at2_W5
  have at3_w6 := (hb6.cell atL_W5).trans at3_W5
  have atL_w6 : w.heap.size + 1 < w6.heap.size := Nat.lt_of_lt_of_le atL_W5 hb6.size
  have rs0_w6 := (hb6.cell rsL_W5).trans rs0_W5
  have rs1_w6 := (hb6.cell rsL_W5).trans rs1_W5
  have rsF_w6 : ∀ o, w6.frozen? ⟨w.heap.size + 1 + 1, o, none⟩ = false := fun o => (hb6.frozen rsL_W5).trans (rsF_W5 o)
  have rsL_w6 : w.heap.size + 1 + 1 < w6.heap.size := Nat.lt_of_lt_of_le rsL_W5 hb6.size
  have ot0_w6 := (hb6.cell oL).trans o0
  have ot1_w6 := (hb6.cell oL).trans o1
  have otF_w6 : ∀ o, w6.frozen? ⟨w4.heap.size, o, none⟩ = false := fun o => (hb6.frozen oL).trans (oF o)
  have otL_w6 : w4.heap.size < w6.heap.size := Nat.lt_of_lt_of_le oL hb6.size
  have oP_w6 := hidP (OwnG.later oP_W5.out hb6)
  have oB_w6 := hidP (OwnG.later oB_W5.out hb6)
  have acc_w6 := hidP (acc_W5.out.trans (hb6.mono acc_W5.out.size))
  have ac3_w6 := hidP (ac3_W5.out.trans (hb6.mono ac3_W5.out.size))
  clear pbF_W5 pb0_W5 pb1_W5 pbL_W5 at0_W5 at1_W5 at2_W5 at3_W5 atL_W5 rsF_W5 rs0_W5 rs1_W5 rsL_W5 oF o0 o1 oL oP_W5 oB_W5 acc_W5 ac3_W5 hb6
  go_wp2_with fail
  refine (HPk.out _).mono ?_
  rintro e w7 ⟨rfl, hb7⟩
  have pb0_w7 := (hb7.cell pbL_w6).trans pb0_w6
  have pb1_w7 := (hb7.cell pbL_w6).trans pb1_w6
  have pbF_w7 : ∀ o, w7.frozen? ⟨w.heap.size, o, none⟩ = false := fun o => (hb7.frozen pbL_w6).trans (pbF_w6 o)
  have pbL_w7 : w.heap.size < w7.heap.size := Nat.lt_of_lt_of_le pbL_w6 hb7.size
  have at0_w7 := (hb7.cell atL_w6).trans at0_w6
  have at1_w7 := (hb7.cell atL_w6).trans at1_w6
  have at2_w7 := (hb7.cell atL_w6).trans at2_w6
  have at3_w7 := (hb7.cell atL_w6).trans at3_w6
  have atL_w7 : w.heap.size + 1 < w7.heap.size := Nat.lt_of_lt_of_le atL_w6 hb7.size
  have rs0_w7 := (hb7.cell rsL_w6).trans rs0_w6
  have rs1_w7 := (hb7.cell rsL_w6).trans rs1_w6
  have rsF_w7 : ∀ o, w7.frozen? ⟨w.heap.size + 1 + 1, o, none⟩ = false := fun o => (hb7.frozen rsL_w6).trans (rsF_w6 o)
  have rsL_w7 : w.heap.size + 1 + 1 < w7.heap.size := Nat.lt_of_lt_of_le rsL_w6 hb7.size
  have ot0_w7 := (hb7.cell otL_w6).trans ot0_w6
  have ot1_w7 := (hb7.cell otL_w6).trans ot1_w6
  have otF_w7 : ∀ o, w7.frozen? ⟨w4.heap.size, o, none⟩ = false := fun o => (hb7.frozen otL_w6).trans (otF_w6 o)
  have otL_w7 : w4.heap.size < w7.heap.size := Nat.lt_of_lt_of_le otL_w6 hb7.size
  have oP_w7 := hidP (OwnG.later oP_w6.out hb7)
  have oB_w7 := hidP (OwnG.later oB_w6.out hb7)
  have acc_w7 := hidP (acc_w6.out.trans (hb7.mono acc_w6.out.size))
  have ac3_w7 := hidP (ac3_w6.out.trans (hb7.mono ac3_w6.out.size))
  clear pbF_w6 pb0_w6 pb1_w6 pbL_w6 at0_w6 at1_w6 at2_w6 at3_w6 atL_w6 rsF_w6 rs0_w6 rs1_w6 rsL_w6 otF_w6 ot0_w6 ot1_w6 otL_w6 oP_w6 oB_w6 acc_w6 ac3_w6 hb7
  go_wp2_with fail
  refine (HPl.out _ acc_w7.out).mono ?_
  rintro e w8 ⟨rfl, hb8⟩
  have pb0_w8 := (hb8.cell pbL_w7).trans pb0_w7
  have pb1_w8 := (hb8.cell pbL_w7).trans pb1_w7
  have pbF_w8 : ∀ o, w8.frozen? ⟨w.heap.size, o, none⟩ = false := fun o => (hb8.frozen pbL_w7).trans (pbF_w7 o)
  have pbL_w8 : w.heap.size < w8.heap.size := Nat.lt_of_lt_of_le pbL_w7 hb8.size
  have at0_w8 := (hb8.cell atL_w7).trans at0_w7
  have at1_w8 := (hb8.cell atL_w7).trans at1_w7
  have at2_w8 := (hb8.cell atL_w7).trans at2_w7
  have at3_w8 := (hb8.cell atL_w7).trans at3_w7
  have atL_w8 : w.heap.size + 1 < w8.heap.size := Nat.lt_of_lt_of_le atL_w7 hb8.size
  have rs0_w8 := (hb8.cell rsL_w7).trans rs0_w7
  have rs1_w8 := (hb8.cell rsL_w7).trans rs1_w7
  have rsF_w8 : ∀ o, w8.frozen? ⟨w.heap.size + 1 + 1, o, none⟩ = false := fun o => (hb8.frozen rsL_w7).trans (rsF_w7 o)
  have rsL_w8 : w.heap.size + 1 + 1 < w8.heap.size := Nat.lt_of_lt_of_le rsL_w7 hb8.size
  have ot0_w8 := (hb8.cell otL_w7).trans ot0_w7
  have ot1_w8 := (hb8.cell otL_w7).trans ot1_w7
  have otF_w8 : ∀ o, w8.frozen? ⟨w4.heap.size, o, none⟩ = false := fun o => (hb8.frozen otL_w7).trans (otF_w7 o)
  have otL_w8 : w4.heap.size < w8.heap.size := Nat.lt_of_lt_of_le otL_w7 hb8.size
  have oP_w8 := hidP (OwnG.later oP_w7.out hb8)
  have oB_w8 := hidP (OwnG.later oB_w7.out hb8)
  have acc_w8 := hidP (acc_w7.out.trans (hb8.mono acc_w7.out.size))
  have ac3_w8 := hidP (ac3_w7.out.trans (hb8.mono ac3_w7.out.size))
  clear pbF_w7 pb0_w7 pb1_w7 pbL_w7 at0_w7 at1_w7 at2_w7 at3_w7 atL_w7 rsF_w7 rs0_w7 rs1_w7 rsL_w7 otF_w7 ot0_w7 ot1_w7 otL_w7 oP_w7 oB_w7 acc_w7 ac3_w7 hb8
  go_wp2_with fail
  refine (HBI.out _ acc_w8.out).mono ?_
  rintro e w9 ⟨a9, c9, rfl, _, hb9⟩
  have pb0_w9 := (hb9.cell pbL_w8).trans pb0_w8
  have pb1_w9 := (hb9.cell pbL_w8).trans pb1_w8
  have pbF_w9 : ∀ o, w9.frozen? ⟨w.heap.size, o, none⟩ = false := fun o => (hb9.frozen pbL_w8).trans (pbF_w8 o)
  have pbL_w9 : w.heap.size < w9.heap.size := Nat.lt_of_lt_of_le pbL_w8 hb9.size
  have at0_w9 := (hb9.cell atL_w8).trans at0_w8
  have at1_w9 := (hb9.cell atL_w8).trans at1_w8
  have at2_w9 := (hb9.cell atL_w8).trans at2_w8
  have at3_w9 := (hb9.cell atL_w8).trans at3_w8
  have atL_w9 : w.heap.size + 1 < w9.heap.size := Nat.lt_of_lt_of_le atL_w8 hb9.size
  have rs0_w9 := (hb9.cell rsL_w8).trans rs0_w8
  have rs1_w9 := (hb9.cell rsL_w8).trans rs1_w8
  have rsF_w9 : ∀ o, w9.frozen? ⟨w.heap.size + 1 + 1, o, none⟩ = false := fun o => (hb9.frozen rsL_w8).trans (rsF_w8 o)
  have rsL_w9 : w.heap.size + 1 + 1 < w9.heap.size := Nat.lt_of_lt_of_le rsL_w8 hb9.size
  have ot0_w9 := (hb9.cell otL_w8).trans ot0_w8
  have ot1_w9 := (hb9.cell otL_w8).trans ot1_w8
  have otF_w9 : ∀ o, w9.frozen? ⟨w4.heap.size, o, none⟩ = false := fun o => (hb9.frozen otL_w8).trans (otF_w8 o)
  have otL_w9 : w4.heap.size < w9.heap.size := Nat.lt_of_lt_of_le otL_w8 hb9.size
  have oP_w9 := hidP (OwnG.later oP_w8.out hb9)
  have oB_w9 := hidP (OwnG.later oB_w8.out hb9)
  have acc_w9 := hidP (acc_w8.out.trans (hb9.mono acc_w8.out.size))
  have ac3_w9 := hidP (ac3_w8.out.trans (hb9.mono ac3_w8.out.size))
  clear pbF_w8 pb0_w8 pb1_w8 pbL_w8 at0_w8 at1_w8 at2_w8 at3_w8 atL_w8 rsF_w8 rs0_w8 rs1_w8 rsL_w8 otF_w8 ot0_w8 ot1_w8 otL_w8 oP_w8 oB_w8 acc_w8 ac3_w8 hb9
  go_wp2_with fail
  have HSx : Hid (∀ x, Below W3.heap.size W3 x → (x.cell? ⟨w.heap.size, 0, none⟩ = some (.slice (some ⟨g, 0, none⟩) np np) ∧ Below W3.heap.size W3 x)) := hidP fun x h =>
    ⟨(h.cell UL9).trans U0c, h⟩
  refine wp_region_held_drew (S := (fun x => x.cell? ⟨w.heap.size, 0, none⟩ = some (.slice (some ⟨g, 0, none⟩) np np) ∧ Below W3.heap.size W3 x)) (by kernel_rfl) ?_ (fun hHeld => ?_)
  · try dsimp only
    exact HSx.out _ (ac3_w9.out.drew)
  refine wpAnyH_take (i := 1) (oi := ⟨some 34, _, _, _, _, _⟩) (v := ?_) rfl (by kernel_rfl) (by kernel_rfl) (by kernel_rfl) (fun _ _ _ h => h) (Or.inl ⟨by rfl, ?_⟩) (by assumption) ?_
  rotate_left
  · intro w hSw
    try dsimp only at hSw
    go_simp
    try with_reducible rfl
  simp only [Act.put, List.setIfInBounds_toArray, List.set_cons_zero, List.set_cons_succ]
  refine wpAnyH_take (i := 2) (oi := ⟨some 35, _, _, _, _, _⟩) (v := ?_) rfl (by kernel_rfl) (by kernel_rfl) (by kernel_rfl) (fun _ _ _ h => h) (Or.inl ⟨by rfl, ?_⟩) (by assumption) ?_
  rotate_left
  · intro w hSw
    try dsimp only at hSw
    go_simp
    try with_reducible rfl
  simp only [Act.put, List.setIfInBounds_toArray, List.set_cons_zero, List.set_cons_succ]
  refine wpAnyH_take (i := 3) (oi := ⟨some 36, _, _, _, _, _⟩) (v := ?_) rfl (by kernel_rfl) (by kernel_rfl) (by kernel_rfl) (fun _ _ _ h => h) (Or.inl ⟨by rfl, ?_⟩) (by assumption) ?_
  rotate_left
  · intro w hSw
    try dsimp only at hSw
    go_simp
    try with_reducible rfl
  simp only [Act.put, List.setIfInBounds_toArray, List.set_cons_zero, List.set_cons_succ]
  refine wpAnyH_take (i := 4) (oi := ⟨some 37, _, _, _, _, _⟩) (v := ?_) rfl (by kernel_rfl) (by kernel_rfl) (by kernel_rfl) (fun _ _ _ h => h) (Or.inl ⟨by rfl, ?_⟩) (by assumption) ?_
  rotate_left
  · intro w hSw
    try dsimp only at hSw
    go_simp
    try with_reducible rfl
  simp only [Act.put, List.setIfInBounds_toArray, List.set_cons_zero, List.set_cons_succ]
  refine wpAnyH_take (i := 6) (oi := ⟨some 39, _, _, _, _, _⟩) (v := ?_) rfl (by kernel_rfl) (by kernel_rfl) (by kernel_rfl) (fun _ _ _ h => h) (Or.inl ⟨by rfl, ?_⟩) (by assumption) ?_
  rotate_left
  · intro w hSw
    try dsimp only at hSw
    go_simp
    try with_reducible rfl
  simp only [Act.put, List.setIfInBounds_toArray, List.set_cons_zero, List.set_cons_succ]
  refine wpAnyH_take (i := 7) (oi := ⟨some 40, _, _, _, _, _⟩) (v := ?_) rfl (by kernel_rfl) (by kernel_rfl) (by kernel_rfl) (fun _ _ _ h => h) (Or.inl ⟨by rfl, ?_⟩) (by assumption) ?_
  rotate_left
  · intro w hSw
    try dsimp only at hSw
    go_simp
    try with_reducible rfl
  simp only [Act.put, List.setIfInBounds_toArray, List.set_cons_zero, List.set_cons_succ]
  refine wpAnyH_take (i := 8) (oi := ⟨some 41, _, _, _, _, _⟩) (v := ?_) rfl (by kernel_rfl) (by kernel_rfl) (by kernel_rfl) (fun _ _ _ h => h) (Or.inl ⟨by rfl, ?_⟩) (by assumption) ?_
  rotate_left
  · intro w hSw
    try dsimp only at hSw
    go_simp
    try with_reducible rfl
  simp only [Act.put, List.setIfInBounds_toArray, List.set_cons_zero, List.set_cons_succ]
  refine wpAnyH_take (i := 9) (oi := ⟨some 42, _, _, _, _, _⟩) (v := ?_) rfl (by kernel_rfl) (by kernel_rfl) (by kernel_rfl) (fun _ _ _ h => h) (Or.inl ⟨by rfl, ?_⟩) (by assumption) ?_
  rotate_left
  · intro w hSw
    try dsimp only at hSw
    go_simp
    try with_reducible rfl
  simp only [Act.put, List.setIfInBounds_toArray, List.set_cons_zero, List.set_cons_succ]
  refine wpAnyH_take (i := 10) (oi := ⟨some 43, _, _, _, _, _⟩) (v := ?_) rfl (by kernel_rfl) (by kernel_rfl) (by kernel_rfl) (fun _ _ _ h => h) (Or.inl ⟨by rfl, ?_⟩) (by assumption) ?_
  rotate_left
  · intro w hSw
    try dsimp only at hSw
    go_simp
    try with_reducible rfl
  simp only [Act.put, List.setIfInBounds_toArray, List.set_cons_zero, List.set_cons_succ]
  refine wpAnyH_ready (rs := [0]) (by kernel_rfl) (by simp) ?_
  refine AllReadyH.cons rfl (fun K hK => ?_) AllReadyH.nil
  go_simp
  have z1 := OwnG.drewG (own_zeroG KPl w9 w9.heap.size 48 (Nat.le_refl _))
  have zb1 := (alloc_below w9 (.cells #[] 48)).drew
  have zs1 : w9.heap.size + 1 ≤ (w9.alloc (.cells #[] 48)).drew.heap.size := by show w9.heap.size + 1 ≤ (w9.alloc (.cells #[] 48)).heap.size; simp
  have bel1 := ac3_w9.out.trans (zb1.mono ac3_w9.out.size)
  generalize (w9.alloc (.cells #[] 48)).drew = v1 at *
  refine hK.out _ _ ?_ (fun hHeld => ?_)
  · try dsimp only
    exact HSx.out _ bel1
  clear hK K
  refine wpAnyH_ready (rs := [5]) (by kernel_rfl) (by simp) ?_
  refine AllReadyH.cons rfl (fun K hK => ?_) AllReadyH.nil
  have rw1 : Below w.heap.size w v1 := acc_w9.out.trans (zb1.mono acc_w9.out.size)
  refine step_appG Try.tyPl _ rfl (.tmp 33) (.tmp 37) 29 rfl w9.heap.size (some ⟨w9.heap.size, 0, none⟩) 0 0 i [] (ps.take i) (.slice (some ⟨g, 0, none⟩) i np) rfl rfl HL.out.1.symm z1 rfl (src_rowG Try.tyPl.1 i np (by show 0 < 5; omega) HL.out.1.symm (RowG.takeG (HRP.out.later rw1) i) (fun e => by cases e)) (by omega) (by omega) ?_
  intro a2 c2 v2 ho2 hg2 ht2
  rw [Nat.zero_add, List.nil_append] at ho2
  have zs2 := hg2.size
  have bel2 := Below.grown bel1 hg2 bel1.size (fun j hj => by rw [ob_some, Option.some.injEq] at hj; have := ac3_w9.out.size; omega)
  have zb2 := Below.grown zb1 hg2 zb1.size (fun j hj => by rw [ob_some, Option.some.injEq] at hj; omega)
  rw [Nat.zero_add]
  refine hK.out _ _ ?_ (fun hHeld => ?_)
  · try dsimp only
    exact HSx.out _ bel2
  clear hK K
  refine wpAnyH_ready (rs := [11]) (by kernel_rfl) (by simp) ?_
  refine AllReadyH.cons rfl (fun K hK => ?_) AllReadyH.nil
  have rw2 : Below w.heap.size w v2 := acc_w9.out.trans (zb2.mono acc_w9.out.size)
  refine step_appG Try.tyPl _ rfl (.tmp 38) (.tmp 43) 29 rfl w9.heap.size a2 i c2 (np - (i + 1)) (ps.take i) (ps.drop (i + 1)) (.slice (some ⟨g, (i + 1) * 5, none⟩) (np - (i + 1)) (np - (i + 1))) rfl HL.out.1.symm HL.out.2.symm ho2 rfl (src_rowG Try.tyPl.1 _ _ (by show 0 < 5; omega) HL.out.2.symm (RowG.fromG (HRP.out.later rw2) (i + 1)) (fun e => by cases e)) (by omega) (by omega) ?_
  intro a3 c3 v3 ho3 hg3 ht3
  have lo2 := fun j hj => (OwnG.lt ho2 j hj).1
  have bel3 := Below.grown bel2 hg3 bel2.size (fun j hj => by have := lo2 j hj; have := ac3_w9.out.size; omega)
  have zb3 := Below.grown zb2 hg3 zb2.size (fun j hj => by have := lo2 j hj; omega)
  have heM : i + (np - (i + 1)) = np - 1 := by omega
  rw [heM, erase_eq] at ho3
  rw [heM]
  refine hK.out _ _ ?_ (fun hHeld => ?_)
  · try dsimp only
    exact HSx.out _ bel3
  clear hK K
  refine wpAnyH_take (i := 12) (oi := ⟨some 45, _, _, _, _, _⟩) (v := ?_) rfl (by kernel_rfl) (by kernel_rfl) (by kernel_rfl) (fun _ _ _ h => h) (Or.inl ⟨by rfl, ?_⟩) (by assumption) ?_
  rotate_left
  · intro w hSw
    try dsimp only at hSw
    go_simp
    try with_reducible rfl
  simp only [Act.put, List.setIfInBounds_toArray]
  have t0 := (zb3.cell otL_w9).trans ot0_w9
  have t1 := (zb3.cell otL_w9).trans ot1_w9
  have tF : ∀ o, v3.frozen? ⟨w4.heap.size, o, none⟩ = false := fun o => (zb3.frozen otL_w9).trans (otF_w9 o)
  have s0 := (zb3.cell rsL_w9).trans rs0_w9
  have s1 := (zb3.cell rsL_w9).trans rs1_w9
  have sF : ∀ o, v3.frozen? ⟨w.heap.size + 1 + 1, o, none⟩ = false := fun o => (zb3.frozen rsL_w9).trans (rsF_w9 o)
  have w43 : W3.heap.size ≤ w4.heap.size := w43c
  refine wpAnyH_ready (rs := [13]) (by kernel_rfl) (by simp) ?_
  refine AllReadyH.cons rfl (fun K hK => ?_) AllReadyH.nil
  go_simp
  refine hK.out _ _ ?_ (fun hHeld => ?_)
  · try dsimp only
    exact HSx.out _ (bel3.setCell w43 _)
  clear hK K
  have HE := hidP (hHeld.2)
  refine wpAnyH_done (by kernel_rfl) ?_ _
  clear hHeld
  have r0 : (v3.setCell ⟨w4.heap.size, 0, none⟩ (.slice a3 (np - 1) c3)).cell? ⟨w.heap.size + 1 + 1, 0, none⟩ = some (.slice none 0 0) := cell_set1 s0 (by omega)
  have r1 : (v3.setCell ⟨w4.heap.size, 0, none⟩ (.slice a3 (np - 1) c3)).cell? ⟨w.heap.size + 1 + 1, 1, none⟩ = some (.slice none 0 0) := cell_set1 s1 (by omega)
  have rF : ∀ o, (v3.setCell ⟨w4.heap.size, 0, none⟩ (.slice a3 (np - 1) c3)).frozen? ⟨w.heap.size + 1 + 1, o, none⟩ = false := fun o => frz_set1 (sF o) (by omega)
  have n0 : (v3.setCell ⟨w4.heap.size, 0, none⟩ (.slice a3 (np - 1) c3)).cell? ⟨w4.heap.size, 0, none⟩ = some (.slice a3 (np - 1) c3) := by simp [go_sem, t0]
  have n1 : (v3.setCell ⟨w4.heap.size, 0, none⟩ (.slice a3 (np - 1) c3)).cell? ⟨w4.heap.size, 1, none⟩ = some (.slice b nb d) := by simp [go_sem, t1]
  have lB := fun j hj => (OwnG.lt oB_w9.out j hj).2
  have oP9 := hidP (OwnG.set1 (u := .slice a3 (np - 1) c3) ho3 otL_w9)
  have oB9 := hidP (OwnG.grown (OwnG.later oB_w9.out zb3) (grown_cellG v3 w4.heap.size 0 (.slice a3 (np - 1) c3)) (fun j hj e => by have := HLB4.out j hj; simp at e; omega))
  have ac9 := hidP (Below.setCell (p := ⟨w4.heap.size, 0, none⟩) (acc_w9.out.trans (zb3.mono acc_w9.out.size)) (show w.heap.size ≤ w4.heap.size by omega) (.slice a3 (np - 1) c3))
  have lP := fun j hj => (OwnG.lt ho3 j hj).1
  have HD := hidP (And.intro lB lP)
  clear lB lP ho3 hg3 ht3 ho2 hg2 ht2 z1 t0 t1 tF s0 s1 sF
  generalize v3.setCell ⟨w4.heap.size, 0, none⟩ (.slice a3 (np - 1) c3) = V at *
  go_wp2_with fail
  refine bodyPost_ret (v := .tuple #[.agg #[.slice a3 (np - 1) c3, .slice b nb d], .int .i64 0]) (by simp [results, Try.results21, go_sem, r0, r1]) rfl ⟨_, _, _, _, rfl, (OwnG.set2 oP9.out (by omega)).mono (by omega), (OwnG.set2 oB9.out kL9).mono (Nat.le_of_lt UL9), (fun k h1 h2 => by have e1 := HD.out.2 k h1; have e2 := HD.out.1 k h2; omega), below_set2 ac9.out (by omega)⟩

end Go.Proofs.Ythbpehpnikknlaa

namespace Go.Proofs.Ythbpehpnikknlaa
open Go.RowKit

theorem ixF_cases {α : Type} (f : α → Bool) : ∀ (ps : List α) (i : Nat), ixF f i ps = -1 ∨ ∃ j, j < ps.length ∧ ixF f i ps = ((i + j : Nat) : Int)
  | [], _ => Or.inl rfl
  | q :: t, i => by
      unfold ixF
      by_cases h : f q = true
      · rw [if_pos h]; exact Or.inr ⟨0, by simp, by simp⟩
      · rw [if_neg h]
        have e : ((i : Int) + 1) = ((i + 1 : Nat) : Int) := by omega
        rw [e]
        rcases ixF_cases f t (i + 1) with h1 | ⟨j, h1, h2⟩
        · exact Or.inl h1
        · exact Or.inr ⟨j + 1, by rw [List.length_cons]; omega, by rw [h2]; omega⟩
theorem drop_both (pt : Pf) (np nb : Nat) (ps : List Pl) (bs : List Bk) (hnp : np = ps.length) (hnb : nb = bs.length) (hl : np ≤ 1048576) (hl' : nb ≤ 1048576) (hst : ∀ q ∈ bs, q.t.size ≤ 9223372036854775807) :
    ∃ (PS : List Pl) (NP : Nat) (BS : List Bk) (NB : Nat) (C : Int), NP = PS.length ∧ NB = BS.length ∧ NP ≤ 1048577 ∧ NB ≤ 1048577 ∧ (∀ (g h : Nat) (W : World), RowG KPl W (some ⟨g, 0, none⟩) ps → RowG KBk W (some ⟨h, 0, none⟩) bs → Calls Try.prog 21 #[.agg #[.slice (some ⟨g, 0, none⟩) np np, .slice (some ⟨h, 0, none⟩) nb nb], .agg #[.bool pt.s, .int .i64 pt.H.toInt, .int .i64 pt.L.toInt, .int .i64 pt.b]] W fun e w' => ∃ a c b d, e = .returned (.tuple #[.agg #[.slice a NP c, .slice b NB d], .int .i64 C]) ∧ OwnG KPl 48 w' W.heap.size (.slice a NP c) PS ∧ OwnG KBk 56 w' W.heap.size (.slice b NB d) BS ∧ (∀ k, (Value.slice a NP c).ownBlock = some k → (Value.slice b NB d).ownBlock ≠ some k) ∧ Below W.heap.size W w') ∧ (∀ (g h : Nat) (W : World), RowG KPl W (some ⟨g, 0, none⟩) ps → RowG KBk W (some ⟨h, 0, none⟩) bs → Calls Try.prog 23 #[.agg #[.slice (some ⟨g, 0, none⟩) np np, .slice (some ⟨h, 0, none⟩) nb nb], .agg #[.bool pt.s, .int .i64 pt.H.toInt, .int .i64 pt.L.toInt, .int .i64 pt.b]] W fun e w' => ∃ a c b d, e = .returned (.tuple #[.agg #[.slice a NP c, .slice b NB d], .int .i64 C]) ∧ OwnG KPl 48 w' W.heap.size (.slice a NP c) PS ∧ OwnG KBk 56 w' W.heap.size (.slice b NB d) BS ∧ (∀ k, (Value.slice a NP c).ownBlock = some k → (Value.slice b NB d).ownBlock ≠ some k) ∧ Below W.heap.size W w') := by
  by_cases hr : planB ps bs = true
  · by_cases hk : pt.pk = true
    · rcases ixF_cases (fun q => peqB q.p pt) ps 0 with hp | ⟨i, hi, hp⟩
      · exact ⟨ps, np, bs, nb, 4, hnp, hnb, by omega, by omega, fun g h W e1 e2 => sDrop_c pt g h np nb ps bs W hnp hnb e1 e2 hl hl' hst hr hk hp, fun g h W e1 e2 => iDrop_c pt g h np nb ps bs W hnp hnb e1 e2 hl hl' hst hr hk hp⟩
      · have hp' : plc pt ps = (i : Int) := by rw [Nat.zero_add] at hp; exact hp
        have hi' : i < np := by omega
        by_cases hu : 0 < (fil bs pt).length
        · exact ⟨ps, np, bs, nb, 6, hnp, hnb, by omega, by omega, fun g h W e1 e2 => sDrop_d pt g h np nb ps bs W hnp hnb e1 e2 hl hl' hst hr hk i hp' hu, fun g h W e1 e2 => iDrop_d pt g h np nb ps bs W hnp hnb e1 e2 hl hl' hst hr hk i hp' hu⟩
        · have hu' : (fil bs pt).length = 0 := by omega
          refine ⟨ps.eraseIdx i, np - 1, bs, nb, 0, by rw [List.length_eraseIdx_of_lt hi, hnp], hnb, by omega, by omega, fun g h W e1 e2 => ?_, fun g h W e1 e2 => iDrop_e pt g h np nb ps bs W hnp hnb e1 e2 hl hl' hst hr hk i hi' hp' hu'⟩
          by_cases hcj : np = i + 1
          · exact sDrop_e0 pt g h np nb ps bs W hnp hnb e1 e2 hl hl' hst hr hk i hi' hcj hp' hu'
          · exact sDrop_e1 pt g h np nb ps bs W hnp hnb e1 e2 hl hl' hst hr hk i hi' hcj hp' hu'
    · have hk' : pt.pk = false := by simpa using hk
      exact ⟨ps, np, bs, nb, 1, hnp, hnb, by omega, by omega, fun g h W e1 e2 => sDrop_b pt g h np nb ps bs W hnp hnb e1 e2 hl hl' hst hr hk', fun g h W e1 e2 => iDrop_b pt g h np nb ps bs W hnp hnb e1 e2 hl hl' hst hr hk'⟩
  · have hr' : planB ps bs = false := by simpa using hr
    exact ⟨ps, np, bs, nb, 1, hnp, hnb, by omega, by omega, fun g h W e1 e2 => sDrop_a pt g h np nb ps bs W hnp hnb e1 e2 hl hl' hst hr', fun g h W e1 e2 => iDrop_a pt g h np nb ps bs W hnp hnb e1 e2 hl hl' hst hr'⟩

end Go.Proofs.Ythbpehpnikknlaa
