/-
  The specification's AddPool, where it refuses.
-/
import Derived.Test.YthbpehpnikknlaaMDropA
import Derived.Test.YthbpehpnikknlaaBIPok
import Derived.Test.YthbpehpnikknlaaBSPok
import Derived.Deep.RegionWith
import Derived.Deep.RegionHeld3
import Derived.Test.YthbpehpnikknlaaKMath
import Derived.Test.YthbpehpnikknlaaVIdx
import Derived.Test.YthbpehpnikknlaaBIOver
namespace Go.Proofs.Ythbpehpnikknlaa
open Go.RowKit

theorem frz4 (w : World) (t : TypeId) (p : Pf) (o : Nat) : (w.alloc (.cells #[.bool p.s, .int .i64 p.H.toInt, .int .i64 p.L.toInt, .int .i64 p.b] t)).frozen? ⟨w.heap.size, o, none⟩ = false := by simp [go_sem]
theorem OwnG.set2 {α : Type} {K : Kd α} {t : TypeId} {w : World} {B x : Nat} {v u u' : Value} {ps : List α} (h : OwnG K t w B v ps) (hx : x < B) : OwnG K t ((w.setCell ⟨x, 0, none⟩ u).setCell ⟨x, 1, none⟩ u') B v ps := by
  have o1 := OwnG.grown h (grown_cellG w x 0 u) (fun k hk e => by have := (OwnG.lt h k hk).1; simp at e; omega)
  exact OwnG.grown o1 (grown_cellG _ x 1 u') (fun k hk e => by have := (OwnG.lt h k hk).1; simp at e; omega)
theorem OwnG.set1 {α : Type} {K : Kd α} {t : TypeId} {w : World} {B x : Nat} {v u : Value} {ps : List α} (h : OwnG K t w B v ps) (hx : x < B) : OwnG K t (w.setCell ⟨x, 0, none⟩ u) B v ps :=
  OwnG.grown h (grown_cellG w x 0 u) (fun k hk e => by have := (OwnG.lt h k hk).1; simp at e; omega)
theorem below_set2 {w0 w : World} {B0 x : Nat} {u u' : Value} (h : Below B0 w0 w) (hx : B0 ≤ x) : Below B0 w0 ((w.setCell ⟨x, 0, none⟩ u).setCell ⟨x, 1, none⟩ u') := (h.setCell hx _).setCell hx _
theorem below_set1 {w0 w : World} {B0 x : Nat} {u : Value} (h : Below B0 w0 w) (hx : B0 ≤ x) : Below B0 w0 (w.setCell ⟨x, 0, none⟩ u) := h.setCell hx _
theorem cell_set2 {w : World} {x b o : Nat} {u u' v : Value} (h : w.cell? ⟨b, o, none⟩ = some v) (hb : b ≠ x) : ((w.setCell ⟨x, 0, none⟩ u).setCell ⟨x, 1, none⟩ u').cell? ⟨b, o, none⟩ = some v := by
  rw [World.cell?_of_block (heap_setCell_other _ ⟨x, 1, none⟩ b _ (by simpa using hb)), World.cell?_of_block (heap_setCell_other _ ⟨x, 0, none⟩ b _ (by simpa using hb))]; exact h
theorem cell_set1 {w : World} {x b o : Nat} {u v : Value} (h : w.cell? ⟨b, o, none⟩ = some v) (hb : b ≠ x) : (w.setCell ⟨x, 0, none⟩ u).cell? ⟨b, o, none⟩ = some v := by
  rw [World.cell?_of_block (heap_setCell_other _ ⟨x, 0, none⟩ b _ (by simpa using hb))]; exact h
theorem frz_set2 {w : World} {x b o : Nat} {u u' : Value} (h : w.frozen? ⟨b, o, none⟩ = false) (hb : b ≠ x) : ((w.setCell ⟨x, 0, none⟩ u).setCell ⟨x, 1, none⟩ u').frozen? ⟨b, o, none⟩ = false := by
  rw [World.frozen?_of_block (heap_setCell_other _ ⟨x, 1, none⟩ b _ (by simpa using hb)), World.frozen?_of_block (heap_setCell_other _ ⟨x, 0, none⟩ b _ (by simpa using hb))]; exact h
theorem frz_set1 {w : World} {x b o : Nat} {u : Value} (h : w.frozen? ⟨b, o, none⟩ = false) (hb : b ≠ x) : (w.setCell ⟨x, 0, none⟩ u).frozen? ⟨b, o, none⟩ = false := by
  rw [World.frozen?_of_block (heap_setCell_other _ ⟨x, 0, none⟩ b _ (by simpa using hb))]; exact h
theorem Sgrown {α : Type} {K : Kd α} {t : TypeId} {w : World} {B : Nat} {v : Value} {ps : List α} (h : OwnG K t w B v ps) : ∀ k, v.ownBlock = some k → B ≤ k := fun k hk => (OwnG.lt h k hk).1

end Go.Proofs.Ythbpehpnikknlaa

namespace Go.Proofs.Ythbpehpnikknlaa
open Go.RowKit

theorem RowG.takeG {α : Type} {K : Kd α} {w : World} {a : Option Addr} {ps : List α} (h : RowG K w a ps) (i : Nat) : RowG K w a (ps.take i) := fun j hj => by
  rw [List.length_take] at hj
  obtain ⟨p, o, q, ha, hp, hq, c⟩ := h j (by omega)
  exact ⟨p, o, q, ha, hp, by rw [List.getElem?_take, if_pos (by omega)]; exact hq, c⟩
theorem RowG.fromG {α : Type} {K : Kd α} {w : World} {g : Nat} {ps : List α} (h : RowG K w (some ⟨g, 0, none⟩) ps) (j : Nat) : RowG K w (some ⟨g, j * K.k, none⟩) (ps.drop j) := fun i hi => by
  rw [List.length_drop] at hi
  obtain ⟨p, o, q, ha, hp, hq, c⟩ := h (j + i) (by omega)
  simp only [Option.some.injEq, Addr.mk.injEq, and_true] at ha
  obtain ⟨rfl, rfl⟩ := ha
  refine ⟨_, _, q, rfl, hp, by rw [List.getElem?_drop]; exact hq, fun x v hv => ?_⟩
  have := c x v hv
  rw [Nat.zero_add, Nat.add_mul] at this
  exact this

end Go.Proofs.Ythbpehpnikknlaa

namespace Go.Proofs.Ythbpehpnikknlaa
open Go.RowKit

theorem set_mid {α : Type} (u v : List α) (x y : α) : (u ++ x :: v).set u.length y = u ++ y :: v := by
  rw [List.set_append_right _ _ (Nat.le_refl _), Nat.sub_self, List.set_cons_zero]
theorem swap_list {α : Type} (u v z : List α) (x y : α) (i j : Nat) (hi : i = u.length) (hj : j = u.length + 1 + v.length) : ((u ++ x :: (v ++ y :: z)).set i y).set j x = u ++ y :: (v ++ x :: z) := by
  subst hi
  rw [set_mid]
  have e : u ++ y :: (v ++ y :: z) = (u ++ y :: v) ++ y :: z := by simp
  have e2 : u ++ y :: (v ++ x :: z) = (u ++ y :: v) ++ x :: z := by simp
  have hl : j = (u ++ y :: v).length := by simp [hj]; omega
  rw [e, e2, hl, set_mid]
theorem td {α : Type} (j : Nat) (U Z : List α) : U.take j ++ (U.drop j ++ Z) = U ++ Z := by rw [← List.append_assoc, List.take_append_drop]
/-- What a swap of two pools of a row of one's own wants and leaves. -/
theorem OwnG.swap5 {t : TypeId} {w : World} {B g n cap : Nat} {u v z : List Pl} {x y : Pl} (h : OwnG KPl t w B (.slice (some ⟨g, 0, none⟩) n cap) (u ++ x :: (v ++ y :: z))) (i j : Nat) (hi : i = u.length) (hj : j = u.length + 1 + v.length) :
    n = u.length + 1 + v.length + 1 + z.length ∧
    (w.cell? ⟨g, i * 5, none⟩ = some (.bool x.p.s) ∧ w.cell? ⟨g, i * 5 + 1, none⟩ = some (.int .i64 x.p.H.toInt) ∧ w.cell? ⟨g, i * 5 + 2, none⟩ = some (.int .i64 x.p.L.toInt) ∧ w.cell? ⟨g, i * 5 + 3, none⟩ = some (.int .i64 x.p.b) ∧ w.cell? ⟨g, i * 5 + 4, none⟩ = some (.int .i64 x.n)) ∧
    (w.cell? ⟨g, j * 5, none⟩ = some (.bool y.p.s) ∧ w.cell? ⟨g, j * 5 + 1, none⟩ = some (.int .i64 y.p.H.toInt) ∧ w.cell? ⟨g, j * 5 + 2, none⟩ = some (.int .i64 y.p.L.toInt) ∧ w.cell? ⟨g, j * 5 + 3, none⟩ = some (.int .i64 y.p.b) ∧ w.cell? ⟨g, j * 5 + 4, none⟩ = some (.int .i64 y.n)) ∧
    (∀ k, w.frozen? ⟨g, k, none⟩ = false) ∧
    OwnG KPl t ((((((((((w.setCell ⟨g, i * 5, none⟩ (.bool y.p.s)).setCell ⟨g, i * 5 + 1, none⟩ (.int .i64 y.p.H.toInt)).setCell ⟨g, i * 5 + 2, none⟩ (.int .i64 y.p.L.toInt)).setCell ⟨g, i * 5 + 3, none⟩ (.int .i64 y.p.b)).setCell ⟨g, i * 5 + 4, none⟩ (.int .i64 y.n)).setCell ⟨g, j * 5, none⟩ (.bool x.p.s)).setCell ⟨g, j * 5 + 1, none⟩ (.int .i64 x.p.H.toInt)).setCell ⟨g, j * 5 + 2, none⟩ (.int .i64 x.p.L.toInt)).setCell ⟨g, j * 5 + 3, none⟩ (.int .i64 x.p.b)).setCell ⟨g, j * 5 + 4, none⟩ (.int .i64 x.n)) B (.slice (some ⟨g, 0, none⟩) n cap) (u ++ y :: (v ++ x :: z)) := by
  have hn : n = (u ++ x :: (v ++ y :: z)).length := h.caps.1
  have hn' : n = u.length + 1 + v.length + 1 + z.length := by rw [hn]; simp; omega
  have hx : (u ++ x :: (v ++ y :: z))[i]? = some x := by subst hi; simp
  have hy : (u ++ x :: (v ++ y :: z))[j]? = some y := by
    have e : u ++ x :: (v ++ y :: z) = (u ++ x :: v) ++ y :: z := by simp
    rw [e, List.getElem?_append_right (by simp [hj]; omega)]
    have : j - (u ++ x :: v).length = 0 := by simp [hj]; omega
    rw [this]; rfl
  obtain ⟨q1, _, f1, a0, a1, a2, a3, a4⟩ := rowPl0 h i (by omega)
  obtain ⟨q2, _, f2, b0, b1, b2, b3, b4⟩ := rowPl0 h j (by omega)
  rw [hx] at f1
  rw [hy] at f2
  cases f1
  cases f2
  have s1 := putPl h hn i (by omega) y
  have s2 := putPl s1 (by rw [List.length_set]; exact hn) j (by omega) x
  rw [swap_list u v z x y i j hi hj] at s2
  exact ⟨hn', ⟨a0, a1, a2, a3, a4⟩, ⟨b0, b1, b2, b3, b4⟩, fun k => h.frozen k, s2⟩
/-- The same with the stores the other way round. -/
theorem OwnG.swap5R {t : TypeId} {w : World} {B g n cap : Nat} {u v z : List Pl} {x y : Pl} (h : OwnG KPl t w B (.slice (some ⟨g, 0, none⟩) n cap) (u ++ x :: (v ++ y :: z))) (i j : Nat) (hi : i = u.length) (hj : j = u.length + 1 + v.length) :
    OwnG KPl t ((((((((((w.setCell ⟨g, j * 5, none⟩ (.bool x.p.s)).setCell ⟨g, j * 5 + 1, none⟩ (.int .i64 x.p.H.toInt)).setCell ⟨g, j * 5 + 2, none⟩ (.int .i64 x.p.L.toInt)).setCell ⟨g, j * 5 + 3, none⟩ (.int .i64 x.p.b)).setCell ⟨g, j * 5 + 4, none⟩ (.int .i64 x.n)).setCell ⟨g, i * 5, none⟩ (.bool y.p.s)).setCell ⟨g, i * 5 + 1, none⟩ (.int .i64 y.p.H.toInt)).setCell ⟨g, i * 5 + 2, none⟩ (.int .i64 y.p.L.toInt)).setCell ⟨g, i * 5 + 3, none⟩ (.int .i64 y.p.b)).setCell ⟨g, i * 5 + 4, none⟩ (.int .i64 y.n)) B (.slice (some ⟨g, 0, none⟩) n cap) (u ++ y :: (v ++ x :: z)) := by
  have hn : n = (u ++ x :: (v ++ y :: z)).length := h.caps.1
  have hn' : n = u.length + 1 + v.length + 1 + z.length := by rw [hn]; simp; omega
  have s1 := putPl h hn j (by omega) x
  have s2 := putPl s1 (by rw [List.length_set]; exact hn) i (by omega) y
  rw [List.set_comm _ _ (show j ≠ i by omega), swap_list u v z x y i j hi hj] at s2
  exact s2
theorem grown_drew {w : World} {r : Option Nat} : w.grownBy w.drew r := ⟨rfl, rfl, rfl, Nat.le_refl _, fun _ _ _ => rfl⟩
theorem grown_five {w : World} {g a b c d e : Nat} {v0 v1 v2 v3 v4 : Value} : w.grownBy (((((w.setCell ⟨g, a, none⟩ v0).setCell ⟨g, b, none⟩ v1).setCell ⟨g, c, none⟩ v2).setCell ⟨g, d, none⟩ v3).setCell ⟨g, e, none⟩ v4) (some g) :=
  ((((grown_cellG _ _ _ _).trans (grown_cellG _ _ _ _)).trans (grown_cellG _ _ _ _)).trans (grown_cellG _ _ _ _)).trans (grown_cellG _ _ _ _)

/-- An order by a comparison: what is less is not more; what isn't more goes through. -/
structure Ordr (A : Pl → Prop) (c : Pl → Pl → Int) : Prop where
  asym : ∀ x y, A x → A y → c x y < 0 → ¬ c y x < 0
  thru : ∀ x y z, A x → A y → A z → ¬ c y x < 0 → ¬ c z y < 0 → ¬ c z x < 0
/-- The comparison that is handed in. -/
def Cmpr (A : Pl → Prop) (c : Pl → Pl → Int) : Prop := ∀ x y : Pl, A x → A y → ∀ w : World, Calls Try.prog 55 #[.agg #[.bool x.p.s, .int .i64 x.p.H.toInt, .int .i64 x.p.L.toInt, .int .i64 x.p.b, .int .i64 x.n], .agg #[.bool y.p.s, .int .i64 y.p.H.toInt, .int .i64 y.p.L.toInt, .int .i64 y.p.b, .int .i64 y.n]] w fun e w' => e = .returned (.int .i64 (c x y)) ∧ Below w.heap.size w w'
def Srt (c : Pl → Pl → Int) (R : List Pl) : Prop := R.Pairwise fun x y => ¬ c y x < 0

theorem w64P (x : Int) : wrap64 x = IntKind.i64.wrap x := by rw [IntKind.wrap_i64, wrap64]
theorem below_grown' {w w' : World} (h : Below w.heap.size w w') (r : Option Nat) : w.grownBy w' r := ⟨h.os, h.tape, h.output, h.size, fun k hk _ => h.block k hk⟩
theorem srt_in {A : Pl → Prop} {c : Pl → Pl → Int} (ho : Ordr A c) {L1 L2 : List Pl} {y : Pl} (h : Srt c (L1 ++ L2)) (hA : ∀ x ∈ L1 ++ L2, A x) (hy : A y) (h2 : ∀ z ∈ L2, c y z < 0) (h1 : ∀ L0 x, L1 = L0 ++ [x] → ¬ c y x < 0) : Srt c (L1 ++ y :: L2) := by
  unfold Srt at *
  rw [List.pairwise_append] at h ⊢
  obtain ⟨s1, s2, s3⟩ := h
  refine ⟨s1, List.pairwise_cons.2 ⟨fun z hz => ho.asym y z hy (hA z (List.mem_append_right _ hz)) (h2 z hz), s2⟩, fun x hx z hz => ?_⟩
  rcases List.mem_cons.1 hz with rfl | hz
  · rcases List.eq_nil_or_concat L1 with rfl | ⟨L0, l, rfl⟩
    · cases hx
    · have hl := h1 L0 l (by simp)
      have hlA : A l := hA l (by simp)
      rcases List.mem_append.1 (by simpa using hx : x ∈ L0 ++ [l]) with hx0 | hx0
      · have s1' : (L0 ++ [l]).Pairwise fun x y => ¬ c y x < 0 := by simpa using s1
        rw [List.pairwise_append] at s1'
        exact ho.thru x l _ (hA x (by simp [hx0])) hlA hy (s1'.2.2 x hx0 l (by simp)) hl
      · rw [List.mem_singleton] at hx0; subst hx0; exact hl
  · exact s3 x hx z hz

theorem ins_next {A : Pl → Prop} {c : Pl → Pl → Int} (ho : Ordr A c) {R T L1 L2 : List Pl} {y : Pl} (hR : R = L1 ++ L2) (hpm : R.Perm T) (hst : Srt c R) (hRA : ∀ x ∈ R, A x) (hyA : A y) (h2 : ∀ z ∈ L2, c y z < 0) (h1 : ∀ L0 x, L1 = L0 ++ [x] → ¬ c y x < 0) : (L1 ++ y :: L2).Perm (T ++ [y]) ∧ Srt c (L1 ++ y :: L2) := by
  subst hR
  refine ⟨?_, srt_in ho hst hRA hyA h2 h1⟩
  refine List.perm_middle.trans ?_
  refine (List.perm_append_singleton y (L1 ++ L2)).symm.trans ?_
  exact hpm.append_right [y]
theorem keepS {W X : World} {g J j : Nat} {x y : Pl} (b : Below W.heap.size W X) (hg : g < W.heap.size) (h : W.cell? ⟨g, J * 5, none⟩ = some (.bool x.p.s) ∧ W.cell? ⟨g, J * 5 + 1, none⟩ = some (.int .i64 x.p.H.toInt) ∧ W.cell? ⟨g, J * 5 + 2, none⟩ = some (.int .i64 x.p.L.toInt) ∧ W.cell? ⟨g, J * 5 + 3, none⟩ = some (.int .i64 x.p.b) ∧ W.cell? ⟨g, J * 5 + 4, none⟩ = some (.int .i64 x.n) ∧ W.cell? ⟨g, j * 5, none⟩ = some (.bool y.p.s) ∧ W.cell? ⟨g, j * 5 + 1, none⟩ = some (.int .i64 y.p.H.toInt) ∧ W.cell? ⟨g, j * 5 + 2, none⟩ = some (.int .i64 y.p.L.toInt) ∧ W.cell? ⟨g, j * 5 + 3, none⟩ = some (.int .i64 y.p.b) ∧ W.cell? ⟨g, j * 5 + 4, none⟩ = some (.int .i64 y.n)) : X.cell? ⟨g, J * 5, none⟩ = some (.bool x.p.s) ∧ X.cell? ⟨g, J * 5 + 1, none⟩ = some (.int .i64 x.p.H.toInt) ∧ X.cell? ⟨g, J * 5 + 2, none⟩ = some (.int .i64 x.p.L.toInt) ∧ X.cell? ⟨g, J * 5 + 3, none⟩ = some (.int .i64 x.p.b) ∧ X.cell? ⟨g, J * 5 + 4, none⟩ = some (.int .i64 x.n) ∧ X.cell? ⟨g, j * 5, none⟩ = some (.bool y.p.s) ∧ X.cell? ⟨g, j * 5 + 1, none⟩ = some (.int .i64 y.p.H.toInt) ∧ X.cell? ⟨g, j * 5 + 2, none⟩ = some (.int .i64 y.p.L.toInt) ∧ X.cell? ⟨g, j * 5 + 3, none⟩ = some (.int .i64 y.p.b) ∧ X.cell? ⟨g, j * 5 + 4, none⟩ = some (.int .i64 y.n) :=
  ⟨(b.cell hg).trans h.1, (b.cell hg).trans h.2.1, (b.cell hg).trans h.2.2.1, (b.cell hg).trans h.2.2.2.1, (b.cell hg).trans h.2.2.2.2.1, (b.cell hg).trans h.2.2.2.2.2.1, (b.cell hg).trans h.2.2.2.2.2.2.1, (b.cell hg).trans h.2.2.2.2.2.2.2.1, (b.cell hg).trans h.2.2.2.2.2.2.2.2.1, (b.cell hg).trans h.2.2.2.2.2.2.2.2.2⟩

set_option maxRecDepth 10000 in
set_option maxHeartbeats 4000000 in
theorem insertion_any (A : Pl → Prop) (c : Pl → Pl → Int) (ho : Ordr A c) (hc : Cmpr A c) (g n cap B : Nat) (p X q : List Pl) (a b : Nat) (ha : a = p.length) (hb : b = p.length + X.length) (hA : ∀ x ∈ X, A x) (hn9 : n ≤ 1000000000) (w : World) (h : OwnG KPl 48 w B (.slice (some ⟨g, 0, none⟩) n cap) (p ++ (X ++ q))) :
    Calls Try.prog 103 #[.slice (some ⟨g, 0, none⟩) n cap, .int .i64 a, .int .i64 b, .func (.func 55) #[] #[]] w fun e w' => (∃ v, e = .returned v) ∧ (∃ R, R.Perm X ∧ Srt c R ∧ OwnG KPl 48 w' B (.slice (some ⟨g, 0, none⟩) n cap) (p ++ (R ++ q))) ∧ w.grownBy w' (some g) := by
  have HO := hidP h
  have HOr := hidP ho
  have HC := hidP hc
  have HA := hidP hA
  have hn : n = p.length + X.length + q.length := by rw [h.caps.1]; simp; omega
  have hF := And.intro ha (And.intro hb hn)
  have HF := hidP hF
  have hab : a ≤ b := by omega
  have hbn : b ≤ n := by omega
  have hgw := (OwnG.lt h g rfl).2
  clear h ho hc hA hF ha hb hn
  go_enter Try.func103, Try.ntmps103
  go_wp2_with fail
  go_loopw [8] (fun t8 wr => ∃ (k I : Nat) (R : List Pl), 1 ≤ k ∧ I ≤ n + 1 ∧ t8 = .int .i64 I ∧ I = a + k ∧ R.Perm (X.take k) ∧ Srt c R ∧ OwnG KPl 48 wr B (.slice (some ⟨g, 0, none⟩) n cap) (p ++ (R ++ (X.drop k ++ q))) ∧ w.grownBy wr (some g)) (fun t8 _ => b - (intOf t8).toNat)
  case atStart => exact ⟨1, a + 1, X.take 1, Nat.le_refl _, by omega, by go_num, rfl, List.Perm.refl _, by (cases X with | nil => exact List.Pairwise.nil | cons x t => exact List.pairwise_singleton _ _), by rw [td]; exact HO.out, World.grownBy.refl _ _⟩
  case round =>
    obtain ⟨k, I, R, hk1, hk2, rfl, hI, hpm, hst, hown, hgr⟩ := hrel
    by_cases hlt : I < b
    · have hkX : k < X.length := by have := HF.out; omega
      have hxk : X.drop k = X[k] :: X.drop (k + 1) := List.drop_eq_getElem_cons _
      have htk : X.take (k + 1) = X.take k ++ [X[k]] := List.take_succ_eq_append_getElem _
      have hyA : A X[k] := HA.out _ (List.getElem_mem _)
      generalize X[k] = y at *
      have hRl : R.length = k := by rw [hpm.length_eq, List.length_take]; omega
      have hRA : ∀ x ∈ R, A x := fun x hx => HA.out x (List.mem_of_mem_take (hpm.mem_iff.1 hx))
      rw [hxk] at hown
      have HX := hidP (And.intro htk (And.intro hpm (And.intro hst (And.intro hRl (And.intro hRA hyA)))))
      have HOw := hidP hown
      have HG := hidP hgr
      clear hown hgr hpm hst hRl hRA hyA hxk htk HO
      have HI := hidP hI
      have hIb : I < n := by omega
      clear hI
      go_wp2_with fail
      go_loopw [9] (fun t9 wi => ∃ (j : Nat) (L1 L2 : List Pl), t9 = .int .i64 j ∧ R = L1 ++ L2 ∧ j = a + L1.length ∧ (∀ z ∈ L2, c y z < 0) ∧ OwnG KPl 48 wi B (.slice (some ⟨g, 0, none⟩) n cap) (p ++ (L1 ++ (y :: (L2 ++ (X.drop (k + 1) ++ q))))) ∧ w.grownBy wi (some g)) (fun t9 _ => (intOf t9).toNat)
      case atStart => exact ⟨I, R, [], rfl, by simp, by have := HX.out.2.2.2.1; have := HI.out; omega, (fun z hz => by cases hz), by simpa using HOw.out, HG.out⟩
      case round =>
        obtain ⟨j, L1, L2, rfl, hR, hj, hL2, hown, hgr⟩ := hrel
        have HR := hidP (And.intro hR (And.intro hj hL2))
        have HOi := hidP hown
        have HGi := hidP hgr
        have hjI : j ≤ I := by have h1 := HX.out.2.2.2.1; have h2 := HI.out; rw [hR, List.length_append] at h1; omega
        have hjn : j < n := by omega
        rcases List.eq_nil_or_concat L1 with hL | ⟨L0, x, hL⟩
        · have hja : j = a := by rw [hj, hL]; simp
          subst hja
          have HL := hidP hL
          clear hR hj hL2 hown hgr hL
          go_wp2_with fail
          refine wp_region_held_drew (S := fun _ => True) (by kernel_rfl) trivial (fun hHeld => ?_)
          refine wpAnyH_take (i := 0) (oi := ⟨some 18, _, _, _, _, _⟩) (v := ?_) rfl (by kernel_rfl) (by kernel_rfl) (by kernel_rfl) (fun _ _ _ h => h) (Or.inl ⟨by rfl, ?_⟩) (by assumption) ?_
          rotate_left
          · intro w hSw
            try dsimp only at hSw
            go_simp
            try with_reducible rfl
          simp only [Act.put, List.setIfInBounds_toArray, List.set_cons_zero, List.set_cons_succ]
          refine wpAnyH_take (i := 1) (oi := ⟨some 19, _, _, _, _, _⟩) (v := ?_) rfl (by kernel_rfl) (by kernel_rfl) (by kernel_rfl) (fun _ _ _ h => h) (Or.inl ⟨by rfl, ?_⟩) (by assumption) ?_
          rotate_left
          · intro w hSw
            try dsimp only at hSw
            go_simp
            try with_reducible rfl
          simp only [Act.put, List.setIfInBounds_toArray, List.set_cons_zero, List.set_cons_succ]
          refine wpAnyH_take (i := 2) (oi := ⟨some 20, _, _, _, _, _⟩) (v := ?_) rfl (by kernel_rfl) (by kernel_rfl) (by kernel_rfl) (fun _ _ _ h => h) (Or.inl ⟨by rfl, ?_⟩) (by assumption) ?_
          rotate_left
          · intro w hSw
            try dsimp only at hSw
            go_simp
            try with_reducible rfl
          simp only [Act.put, List.setIfInBounds_toArray, List.set_cons_zero, List.set_cons_succ]
          refine wpAnyH_take (i := 3) (oi := ⟨some 21, _, _, _, _, _⟩) (v := ?_) rfl (by kernel_rfl) (by kernel_rfl) (by kernel_rfl) (fun _ _ _ h => h) (Or.inl ⟨by rfl, ?_⟩) (by assumption) ?_
          rotate_left
          · intro w hSw
            try dsimp only at hSw
            go_simp
            try with_reducible rfl
          simp only [Act.put, List.setIfInBounds_toArray, List.set_cons_zero, List.set_cons_succ]
          refine wpAnyH_take (i := 4) (oi := ⟨some 22, _, _, _, _, _⟩) (v := undef) rfl (by kernel_rfl) (by kernel_rfl) (by kernel_rfl) (fun _ _ _ h => h) (Or.inr ⟨by rfl, rfl⟩) (by assumption) ?_
          simp only [Act.put, List.setIfInBounds_toArray, List.set_cons_zero, List.set_cons_succ]
          refine wpAnyH_take (i := 5) (oi := ⟨some 23, _, _, _, _, _⟩) (v := undef) rfl (by kernel_rfl) (by kernel_rfl) (by kernel_rfl) (fun _ _ _ h => h) (Or.inr ⟨by rfl, rfl⟩) (by assumption) ?_
          simp only [Act.put, List.setIfInBounds_toArray, List.set_cons_zero, List.set_cons_succ]
          refine wpAnyH_take (i := 6) (oi := ⟨some 24, _, _, _, _, _⟩) (v := undef) rfl (by kernel_rfl) (by kernel_rfl) (by kernel_rfl) (fun _ _ _ h => h) (Or.inr ⟨by rfl, rfl⟩) (by assumption) ?_
          simp only [Act.put, List.setIfInBounds_toArray, List.set_cons_zero, List.set_cons_succ]
          refine wpAnyH_take (i := 7) (oi := ⟨some 25, _, _, _, _, _⟩) (v := undef) rfl (by kernel_rfl) (by kernel_rfl) (by kernel_rfl) (fun _ _ _ h => h) (Or.inr ⟨by rfl, rfl⟩) (by assumption) ?_
          simp only [Act.put, List.setIfInBounds_toArray, List.set_cons_zero, List.set_cons_succ]
          refine wpAnyH_take (i := 8) (oi := ⟨some 26, _, _, _, _, _⟩) (v := undef) rfl (by kernel_rfl) (by kernel_rfl) (by kernel_rfl) (fun _ _ _ h => h) (Or.inr ⟨by rfl, rfl⟩) (by assumption) ?_
          simp only [Act.put, List.setIfInBounds_toArray, List.set_cons_zero, List.set_cons_succ]
          refine wpAnyH_take (i := 9) (oi := ⟨some 27, _, _, _, _, _⟩) (v := undef) rfl (by kernel_rfl) (by kernel_rfl) (by kernel_rfl) (fun _ _ _ h => h) (Or.inr ⟨by rfl, rfl⟩) (by assumption) ?_
          simp only [Act.put, List.setIfInBounds_toArray, List.set_cons_zero, List.set_cons_succ]
          refine wpAnyH_take (i := 10) (oi := ⟨some 28, _, _, _, _, _⟩) (v := undef) rfl (by kernel_rfl) (by kernel_rfl) (by kernel_rfl) (fun _ _ _ h => h) (Or.inr ⟨by rfl, rfl⟩) (by assumption) ?_
          simp only [Act.put, List.setIfInBounds_toArray, List.set_cons_zero, List.set_cons_succ]
          refine wpAnyH_take (i := 11) (oi := ⟨some 29, _, _, _, _, _⟩) (v := undef) rfl (by kernel_rfl) (by kernel_rfl) (by kernel_rfl) (fun _ _ _ h => h) (Or.inr ⟨by rfl, rfl⟩) (by assumption) ?_
          simp only [Act.put, List.setIfInBounds_toArray, List.set_cons_zero, List.set_cons_succ]
          refine wpAnyH_take (i := 12) (oi := ⟨some 30, _, _, _, _, _⟩) (v := undef) rfl (by kernel_rfl) (by kernel_rfl) (by kernel_rfl) (fun _ _ _ h => h) (Or.inr ⟨by rfl, rfl⟩) (by assumption) ?_
          simp only [Act.put, List.setIfInBounds_toArray, List.set_cons_zero, List.set_cons_succ]
          refine wpAnyH_take (i := 13) (oi := ⟨some 31, _, _, _, _, _⟩) (v := undef) rfl (by kernel_rfl) (by kernel_rfl) (by kernel_rfl) (fun _ _ _ h => h) (Or.inr ⟨by rfl, rfl⟩) (by assumption) ?_
          simp only [Act.put, List.setIfInBounds_toArray, List.set_cons_zero, List.set_cons_succ]
          refine wpAnyH_take (i := 14) (oi := ⟨some 32, _, _, _, _, _⟩) (v := undef) rfl (by kernel_rfl) (by kernel_rfl) (by kernel_rfl) (fun _ _ _ h => h) (Or.inr ⟨by rfl, rfl⟩) (by assumption) ?_
          simp only [Act.put, List.setIfInBounds_toArray, List.set_cons_zero, List.set_cons_succ]
          refine wpAnyH_take (i := 15) (oi := ⟨some 33, _, _, _, _, _⟩) (v := undef) rfl (by kernel_rfl) (by kernel_rfl) (by kernel_rfl) (fun _ _ _ h => h) (Or.inr ⟨by rfl, rfl⟩) (by assumption) ?_
          simp only [Act.put, List.setIfInBounds_toArray, List.set_cons_zero, List.set_cons_succ]
          refine wpAnyH_take (i := 16) (oi := ⟨some 34, _, _, _, _, _⟩) (v := ?_) rfl (by kernel_rfl) (by kernel_rfl) (by kernel_rfl) (fun _ _ _ h => h) (Or.inl ⟨by rfl, ?_⟩) (by assumption) ?_
          rotate_left
          · intro w hSw
            try dsimp only at hSw
            go_simp
            try with_reducible rfl
          simp only [Act.put, List.setIfInBounds_toArray, List.set_cons_zero, List.set_cons_succ]
          refine wpAnyH_done (by kernel_rfl) ?_ _
          go_wp2_with fail
          go_roundw
          case rel =>
            obtain ⟨f1, f2, f3, f4, f5, f6⟩ := HX.out
            obtain ⟨n1, n2⟩ := ins_next HOr.out HR.out.1 f2 f3 f5 f6 HR.out.2.2 (by intro L0 x h; rw [HL.out] at h; simp at h)
            refine ⟨k + 1, I + 1, L1 ++ y :: L2, by omega, by omega, by go_num, by have := HI.out; omega, by rw [f1]; exact n1, n2, ?_, HGi.out.trans grown_drew⟩
            have h := HOi.out.drewG
            simpa using h
          case measure => simp [intOf]; omega
        · have hjl : a < j := by rw [hj, hL]; simp
          obtain ⟨J, hJ⟩ : ∃ J, J = j - 1 := ⟨_, rfl⟩
          have hJi : (j : Int) - 1 = (J : Int) := by omega
          have hJn : J < n := by omega
          have wJ : IntKind.i64.wrap (J : Int) = (J : Int) := by rw [← w64P, wrap64]; omega
          have hJ0 : (0 : Int) ≤ (J : Int) := by omega
          have hJ1 : (J : Int) < (n : Int) := by omega
          have hJj : J < j := by omega
          have hxA : A x := HX.out.2.2.2.2.1 x (by rw [hR, hL]; simp)
          have hyA : A y := HX.out.2.2.2.2.2
          have e1 : p ++ (L1 ++ (y :: (L2 ++ (X.drop (k + 1) ++ q)))) = (p ++ L0) ++ x :: ([] ++ y :: (L2 ++ (X.drop (k + 1) ++ q))) := by rw [hL]; simp
          rw [e1] at hown
          have hgi := (OwnG.lt hown g rfl).2
          have hlp := HF.out.1
          obtain ⟨-, ⟨x0, x1, x2, x3, x4⟩, ⟨y0, y1, y2, y3, y4⟩, hf, hs⟩ := OwnG.swap5 hown J j (by rw [List.length_append]; rw [hL] at hj; simp at hj; omega) (by rw [List.length_append]; rw [hL] at hj; simp at hj ⊢; omega)
          have HOs := hidP hown
          have HK := hidP (HC.out y x hyA hxA)
          have HJ := hidP (And.intro hJ hL)
          clear hR hj hL2 hown hgr e1 hlp hJ hf hs hL
          go_wp2_with fail
          by_cases hcl : c y x < 0
          · have dcl : decide (c y x < 0) = true := decide_eq_true hcl
            refine wp_region_held_drew (S := (fun v => v.cell? ⟨g, J * 5, none⟩ = some (.bool x.p.s) ∧ v.cell? ⟨g, J * 5 + 1, none⟩ = some (.int .i64 x.p.H.toInt) ∧ v.cell? ⟨g, J * 5 + 2, none⟩ = some (.int .i64 x.p.L.toInt) ∧ v.cell? ⟨g, J * 5 + 3, none⟩ = some (.int .i64 x.p.b) ∧ v.cell? ⟨g, J * 5 + 4, none⟩ = some (.int .i64 x.n) ∧ v.cell? ⟨g, j * 5, none⟩ = some (.bool y.p.s) ∧ v.cell? ⟨g, j * 5 + 1, none⟩ = some (.int .i64 y.p.H.toInt) ∧ v.cell? ⟨g, j * 5 + 2, none⟩ = some (.int .i64 y.p.L.toInt) ∧ v.cell? ⟨g, j * 5 + 3, none⟩ = some (.int .i64 y.p.b) ∧ v.cell? ⟨g, j * 5 + 4, none⟩ = some (.int .i64 y.n))) (by kernel_rfl) ?_ (fun hHeld => ?_)
            · try dsimp only
              exact keepS (Below.refl _ _).drew hgi ⟨x0, x1, x2, x3, x4, y0, y1, y2, y3, y4⟩
            refine wpAnyH_take (i := 0) (oi := ⟨some 18, _, _, _, _, _⟩) (v := ?_) rfl (by kernel_rfl) (by kernel_rfl) (by kernel_rfl) (fun _ _ _ h => h) (Or.inl ⟨by rfl, ?_⟩) (by assumption) ?_
            rotate_left
            · intro w hSw
              try dsimp only at hSw
              go_simp
              try with_reducible rfl
            simp only [Act.put, List.setIfInBounds_toArray, List.set_cons_zero, List.set_cons_succ]
            refine wpAnyH_take (i := 1) (oi := ⟨some 19, _, _, _, _, _⟩) (v := ?_) rfl (by kernel_rfl) (by kernel_rfl) (by kernel_rfl) (fun _ _ _ h => h) (Or.inl ⟨by rfl, ?_⟩) (by assumption) ?_
            rotate_left
            · intro w hSw
              try dsimp only at hSw
              go_simp
              try with_reducible rfl
            simp only [Act.put, List.setIfInBounds_toArray, List.set_cons_zero, List.set_cons_succ]
            refine wpAnyH_take (i := 2) (oi := ⟨some 20, _, _, _, _, _⟩) (v := ?_) rfl (by kernel_rfl) (by kernel_rfl) (by kernel_rfl) (fun _ _ _ h => h) (Or.inl ⟨by rfl, ?_⟩) (by assumption) ?_
            rotate_left
            · intro w hSw
              try dsimp only at hSw
              go_simp
              try with_reducible rfl
            simp only [Act.put, List.setIfInBounds_toArray, List.set_cons_zero, List.set_cons_succ]
            refine wpAnyH_take (i := 3) (oi := ⟨some 21, _, _, _, _, _⟩) (v := ?_) rfl (by kernel_rfl) (by kernel_rfl) (by kernel_rfl) (fun _ _ _ h => h) (Or.inl ⟨by rfl, ?_⟩) (by assumption) ?_
            rotate_left
            · intro w hSw
              try dsimp only at hSw
              go_simp
              try with_reducible rfl
            simp only [Act.put, List.setIfInBounds_toArray, List.set_cons_zero, List.set_cons_succ]
            refine wpAnyH_take (i := 4) (oi := ⟨some 22, _, _, _, _, _⟩) (v := ?_) rfl (by kernel_rfl) (by kernel_rfl) (by kernel_rfl) (fun _ _ _ h => h) (Or.inl ⟨by rfl, ?_⟩) (by assumption) ?_
            rotate_left
            · intro w hSw
              try dsimp only at hSw
              go_simp
              try with_reducible rfl
            simp only [Act.put, List.setIfInBounds_toArray, List.set_cons_zero, List.set_cons_succ]
            refine wpAnyH_take (i := 5) (oi := ⟨some 23, _, _, _, _, _⟩) (v := ?_) rfl (by kernel_rfl) (by kernel_rfl) (by kernel_rfl) (fun _ _ _ h => h) (Or.inl ⟨by rfl, ?_⟩) (by assumption) ?_
            rotate_left
            · intro w hSw
              try dsimp only at hSw
              go_simp
              try with_reducible rfl
            simp only [Act.put, List.setIfInBounds_toArray, List.set_cons_zero, List.set_cons_succ]
            refine wpAnyH_take (i := 6) (oi := ⟨some 24, _, _, _, _, _⟩) (v := ?_) rfl (by kernel_rfl) (by kernel_rfl) (by kernel_rfl) (fun _ _ _ h => h) (Or.inl ⟨by rfl, ?_⟩) (by assumption) ?_
            rotate_left
            · intro w hSw
              try dsimp only at hSw
              go_simp
              try with_reducible rfl
            simp only [Act.put, List.setIfInBounds_toArray, List.set_cons_zero, List.set_cons_succ]
            refine wpAnyH_take (i := 7) (oi := ⟨some 25, _, _, _, _, _⟩) (v := ?_) rfl (by kernel_rfl) (by kernel_rfl) (by kernel_rfl) (fun _ _ _ h => h) (Or.inl ⟨by rfl, ?_⟩) (by assumption) ?_
            rotate_left
            · intro w hSw
              try dsimp only at hSw
              go_simp
              try with_reducible rfl
            simp only [Act.put, List.setIfInBounds_toArray, List.set_cons_zero, List.set_cons_succ]
            refine wpAnyH_take (i := 8) (oi := ⟨some 26, _, _, _, _, _⟩) (v := ?_) rfl (by kernel_rfl) (by kernel_rfl) (by kernel_rfl) (fun _ _ _ h => h) (Or.inl ⟨by rfl, ?_⟩) (by assumption) ?_
            rotate_left
            · intro w hSw
              try dsimp only at hSw
              go_simp
              try with_reducible rfl
            simp only [Act.put, List.setIfInBounds_toArray, List.set_cons_zero, List.set_cons_succ]
            refine wpAnyH_take (i := 9) (oi := ⟨some 27, _, _, _, _, _⟩) (v := ?_) rfl (by kernel_rfl) (by kernel_rfl) (by kernel_rfl) (fun _ _ _ h => h) (Or.inl ⟨by rfl, ?_⟩) (by assumption) ?_
            rotate_left
            · intro w hSw
              try dsimp only at hSw
              go_simp
              try with_reducible rfl
            simp only [Act.put, List.setIfInBounds_toArray, List.set_cons_zero, List.set_cons_succ]
            refine wpAnyH_take (i := 10) (oi := ⟨some 28, _, _, _, _, _⟩) (v := ?_) rfl (by kernel_rfl) (by kernel_rfl) (by kernel_rfl) (fun _ _ _ h => h) (Or.inl ⟨by rfl, ?_⟩) (by assumption) ?_
            rotate_left
            · intro w hSw
              try dsimp only at hSw
              go_simp
              try with_reducible rfl
            simp only [Act.put, List.setIfInBounds_toArray, List.set_cons_zero, List.set_cons_succ]
            refine wpAnyH_take (i := 11) (oi := ⟨some 29, _, _, _, _, _⟩) (v := ?_) rfl (by kernel_rfl) (by kernel_rfl) (by kernel_rfl) (fun _ _ _ h => h) (Or.inl ⟨by rfl, ?_⟩) (by assumption) ?_
            rotate_left
            · intro w hSw
              try dsimp only at hSw
              go_simp
              try with_reducible rfl
            simp only [Act.put, List.setIfInBounds_toArray, List.set_cons_zero, List.set_cons_succ]
            refine wpAnyH_take (i := 12) (oi := ⟨some 30, _, _, _, _, _⟩) (v := ?_) rfl (by kernel_rfl) (by kernel_rfl) (by kernel_rfl) (fun _ _ _ h => h) (Or.inl ⟨by rfl, ?_⟩) (by assumption) ?_
            rotate_left
            · intro w hSw
              try dsimp only at hSw
              go_simp
              try with_reducible rfl
            simp only [Act.put, List.setIfInBounds_toArray, List.set_cons_zero, List.set_cons_succ]
            refine wpAnyH_take (i := 13) (oi := ⟨some 31, _, _, _, _, _⟩) (v := ?_) rfl (by kernel_rfl) (by kernel_rfl) (by kernel_rfl) (fun _ _ _ h => h) (Or.inl ⟨by rfl, ?_⟩) (by assumption) ?_
            rotate_left
            · intro w hSw
              try dsimp only at hSw
              go_simp
              try with_reducible rfl
            simp only [Act.put, List.setIfInBounds_toArray, List.set_cons_zero, List.set_cons_succ]
            refine wpAnyH_ready (rs := [14]) (by kernel_rfl) (by simp) ?_
            refine AllReadyH.cons rfl (fun K hK => ?_) AllReadyH.nil
            go_simp
            go_wp2_with (first | (go_at_call 55; refine (HK.out _).mono ?_; rintro e w2 ⟨rfl, hb2⟩; have hr2 : Below wr.heap.size wr w2 := (Below.refl _ wr).drew.trans (hb2.mono (by simp))))
            refine hK.out _ _ ?_ (fun hHeld => ?_)
            · try dsimp only
              exact keepS hr2 hgi ⟨x0, x1, x2, x3, x4, y0, y1, y2, y3, y4⟩
            clear hK K
            refine wpAnyH_take (i := 15) (oi := ⟨some 33, _, _, _, _, _⟩) (v := ?_) rfl (by kernel_rfl) (by kernel_rfl) (by kernel_rfl) (fun _ _ _ h => h) (Or.inl ⟨by rfl, ?_⟩) (by assumption) ?_
            rotate_left
            · intro w hSw
              try dsimp only at hSw
              go_simp
              try with_reducible rfl
            simp only [Act.put, List.setIfInBounds_toArray, List.set_cons_zero, List.set_cons_succ]
            refine wpAnyH_take (i := 16) (oi := ⟨some 34, _, _, _, _, _⟩) (v := ?_) rfl (by kernel_rfl) (by kernel_rfl) (by kernel_rfl) (fun _ _ _ h => h) (Or.inl ⟨by rfl, ?_⟩) (by assumption) ?_
            rotate_left
            · intro w hSw
              try dsimp only at hSw
              go_simp
              try with_reducible rfl
            simp only [Act.put, List.setIfInBounds_toArray, List.set_cons_zero, List.set_cons_succ]
            refine wpAnyH_done (by kernel_rfl) ?_ _
            have hown2 := HOs.out.later hr2
            have HG2 := hidP (HGi.out.trans (below_grown' hr2 _))
            have hj' := HR.out.2.1
            have hL' := HJ.out.2
            have hF' := HF.out.1
            have hJ' := HJ.out.1
            obtain ⟨-, ⟨x0', x1', x2', x3', x4'⟩, ⟨y0', y1', y2', y3', y4'⟩, hf, hs⟩ := OwnG.swap5 hown2 J j (by rw [List.length_append]; rw [hL'] at hj'; simp at hj'; omega) (by rw [List.length_append]; rw [hL'] at hj'; simp at hj' ⊢; omega)
            have HS := hidP (OwnG.swap5R hown2 J j (by rw [List.length_append]; rw [hL'] at hj'; simp at hj'; omega) (by rw [List.length_append]; rw [hL'] at hj'; simp at hj' ⊢; omega))
            have f0 := hf (J * 5)
            have f1 := hf (J * 5 + 1)
            have f2 := hf (J * 5 + 2)
            have f3 := hf (J * 5 + 3)
            have f4 := hf (J * 5 + 4)
            have k0 := hf (j * 5)
            have k1 := hf (j * 5 + 1)
            have k2 := hf (j * 5 + 2)
            have k3 := hf (j * 5 + 3)
            have k4 := hf (j * 5 + 4)
            clear hown2 hs hf hj' hL' hF' hJ' hr2 x0 x1 x2 x3 x4 y0 y1 y2 y3 y4 hHeld hb2
            go_wp2_with fail
            go_region
            all_goals
              go_wp2_with fail
              go_roundw
              case rel =>
                obtain ⟨r1, r2, r3⟩ := HR.out
                obtain ⟨q1, q2⟩ := HJ.out
                refine ⟨J, L0, x :: L2, rfl, by rw [r1, q2]; simp, by rw [q2] at r2; simp at r2; omega, fun z hz => ?_, ?_, ((HG2.out.trans grown_five).trans grown_five).trans grown_drew⟩
                · rcases List.mem_cons.1 hz with rfl | hz
                  · exact hcl
                  · exact r3 z hz
                · have h := HS.out.drewG
                  simpa using h
              case measure => simp [intOf]; omega
          · have dcl : decide (c y x < 0) = false := decide_eq_false hcl
            refine wp_region_held_drew (S := (fun v => v.cell? ⟨g, J * 5, none⟩ = some (.bool x.p.s) ∧ v.cell? ⟨g, J * 5 + 1, none⟩ = some (.int .i64 x.p.H.toInt) ∧ v.cell? ⟨g, J * 5 + 2, none⟩ = some (.int .i64 x.p.L.toInt) ∧ v.cell? ⟨g, J * 5 + 3, none⟩ = some (.int .i64 x.p.b) ∧ v.cell? ⟨g, J * 5 + 4, none⟩ = some (.int .i64 x.n) ∧ v.cell? ⟨g, j * 5, none⟩ = some (.bool y.p.s) ∧ v.cell? ⟨g, j * 5 + 1, none⟩ = some (.int .i64 y.p.H.toInt) ∧ v.cell? ⟨g, j * 5 + 2, none⟩ = some (.int .i64 y.p.L.toInt) ∧ v.cell? ⟨g, j * 5 + 3, none⟩ = some (.int .i64 y.p.b) ∧ v.cell? ⟨g, j * 5 + 4, none⟩ = some (.int .i64 y.n))) (by kernel_rfl) ?_ (fun hHeld => ?_)
            · try dsimp only
              exact keepS (Below.refl _ _).drew hgi ⟨x0, x1, x2, x3, x4, y0, y1, y2, y3, y4⟩
            refine wpAnyH_take (i := 0) (oi := ⟨some 18, _, _, _, _, _⟩) (v := ?_) rfl (by kernel_rfl) (by kernel_rfl) (by kernel_rfl) (fun _ _ _ h => h) (Or.inl ⟨by rfl, ?_⟩) (by assumption) ?_
            rotate_left
            · intro w hSw
              try dsimp only at hSw
              go_simp
              try with_reducible rfl
            simp only [Act.put, List.setIfInBounds_toArray, List.set_cons_zero, List.set_cons_succ]
            refine wpAnyH_take (i := 1) (oi := ⟨some 19, _, _, _, _, _⟩) (v := ?_) rfl (by kernel_rfl) (by kernel_rfl) (by kernel_rfl) (fun _ _ _ h => h) (Or.inl ⟨by rfl, ?_⟩) (by assumption) ?_
            rotate_left
            · intro w hSw
              try dsimp only at hSw
              go_simp
              try with_reducible rfl
            simp only [Act.put, List.setIfInBounds_toArray, List.set_cons_zero, List.set_cons_succ]
            refine wpAnyH_take (i := 2) (oi := ⟨some 20, _, _, _, _, _⟩) (v := ?_) rfl (by kernel_rfl) (by kernel_rfl) (by kernel_rfl) (fun _ _ _ h => h) (Or.inl ⟨by rfl, ?_⟩) (by assumption) ?_
            rotate_left
            · intro w hSw
              try dsimp only at hSw
              go_simp
              try with_reducible rfl
            simp only [Act.put, List.setIfInBounds_toArray, List.set_cons_zero, List.set_cons_succ]
            refine wpAnyH_take (i := 3) (oi := ⟨some 21, _, _, _, _, _⟩) (v := ?_) rfl (by kernel_rfl) (by kernel_rfl) (by kernel_rfl) (fun _ _ _ h => h) (Or.inl ⟨by rfl, ?_⟩) (by assumption) ?_
            rotate_left
            · intro w hSw
              try dsimp only at hSw
              go_simp
              try with_reducible rfl
            simp only [Act.put, List.setIfInBounds_toArray, List.set_cons_zero, List.set_cons_succ]
            refine wpAnyH_take (i := 4) (oi := ⟨some 22, _, _, _, _, _⟩) (v := ?_) rfl (by kernel_rfl) (by kernel_rfl) (by kernel_rfl) (fun _ _ _ h => h) (Or.inl ⟨by rfl, ?_⟩) (by assumption) ?_
            rotate_left
            · intro w hSw
              try dsimp only at hSw
              go_simp
              try with_reducible rfl
            simp only [Act.put, List.setIfInBounds_toArray, List.set_cons_zero, List.set_cons_succ]
            refine wpAnyH_take (i := 5) (oi := ⟨some 23, _, _, _, _, _⟩) (v := ?_) rfl (by kernel_rfl) (by kernel_rfl) (by kernel_rfl) (fun _ _ _ h => h) (Or.inl ⟨by rfl, ?_⟩) (by assumption) ?_
            rotate_left
            · intro w hSw
              try dsimp only at hSw
              go_simp
              try with_reducible rfl
            simp only [Act.put, List.setIfInBounds_toArray, List.set_cons_zero, List.set_cons_succ]
            refine wpAnyH_take (i := 6) (oi := ⟨some 24, _, _, _, _, _⟩) (v := ?_) rfl (by kernel_rfl) (by kernel_rfl) (by kernel_rfl) (fun _ _ _ h => h) (Or.inl ⟨by rfl, ?_⟩) (by assumption) ?_
            rotate_left
            · intro w hSw
              try dsimp only at hSw
              go_simp
              try with_reducible rfl
            simp only [Act.put, List.setIfInBounds_toArray, List.set_cons_zero, List.set_cons_succ]
            refine wpAnyH_take (i := 7) (oi := ⟨some 25, _, _, _, _, _⟩) (v := ?_) rfl (by kernel_rfl) (by kernel_rfl) (by kernel_rfl) (fun _ _ _ h => h) (Or.inl ⟨by rfl, ?_⟩) (by assumption) ?_
            rotate_left
            · intro w hSw
              try dsimp only at hSw
              go_simp
              try with_reducible rfl
            simp only [Act.put, List.setIfInBounds_toArray, List.set_cons_zero, List.set_cons_succ]
            refine wpAnyH_take (i := 8) (oi := ⟨some 26, _, _, _, _, _⟩) (v := ?_) rfl (by kernel_rfl) (by kernel_rfl) (by kernel_rfl) (fun _ _ _ h => h) (Or.inl ⟨by rfl, ?_⟩) (by assumption) ?_
            rotate_left
            · intro w hSw
              try dsimp only at hSw
              go_simp
              try with_reducible rfl
            simp only [Act.put, List.setIfInBounds_toArray, List.set_cons_zero, List.set_cons_succ]
            refine wpAnyH_take (i := 9) (oi := ⟨some 27, _, _, _, _, _⟩) (v := ?_) rfl (by kernel_rfl) (by kernel_rfl) (by kernel_rfl) (fun _ _ _ h => h) (Or.inl ⟨by rfl, ?_⟩) (by assumption) ?_
            rotate_left
            · intro w hSw
              try dsimp only at hSw
              go_simp
              try with_reducible rfl
            simp only [Act.put, List.setIfInBounds_toArray, List.set_cons_zero, List.set_cons_succ]
            refine wpAnyH_take (i := 10) (oi := ⟨some 28, _, _, _, _, _⟩) (v := ?_) rfl (by kernel_rfl) (by kernel_rfl) (by kernel_rfl) (fun _ _ _ h => h) (Or.inl ⟨by rfl, ?_⟩) (by assumption) ?_
            rotate_left
            · intro w hSw
              try dsimp only at hSw
              go_simp
              try with_reducible rfl
            simp only [Act.put, List.setIfInBounds_toArray, List.set_cons_zero, List.set_cons_succ]
            refine wpAnyH_take (i := 11) (oi := ⟨some 29, _, _, _, _, _⟩) (v := ?_) rfl (by kernel_rfl) (by kernel_rfl) (by kernel_rfl) (fun _ _ _ h => h) (Or.inl ⟨by rfl, ?_⟩) (by assumption) ?_
            rotate_left
            · intro w hSw
              try dsimp only at hSw
              go_simp
              try with_reducible rfl
            simp only [Act.put, List.setIfInBounds_toArray, List.set_cons_zero, List.set_cons_succ]
            refine wpAnyH_take (i := 12) (oi := ⟨some 30, _, _, _, _, _⟩) (v := ?_) rfl (by kernel_rfl) (by kernel_rfl) (by kernel_rfl) (fun _ _ _ h => h) (Or.inl ⟨by rfl, ?_⟩) (by assumption) ?_
            rotate_left
            · intro w hSw
              try dsimp only at hSw
              go_simp
              try with_reducible rfl
            simp only [Act.put, List.setIfInBounds_toArray, List.set_cons_zero, List.set_cons_succ]
            refine wpAnyH_take (i := 13) (oi := ⟨some 31, _, _, _, _, _⟩) (v := ?_) rfl (by kernel_rfl) (by kernel_rfl) (by kernel_rfl) (fun _ _ _ h => h) (Or.inl ⟨by rfl, ?_⟩) (by assumption) ?_
            rotate_left
            · intro w hSw
              try dsimp only at hSw
              go_simp
              try with_reducible rfl
            simp only [Act.put, List.setIfInBounds_toArray, List.set_cons_zero, List.set_cons_succ]
            refine wpAnyH_ready (rs := [14]) (by kernel_rfl) (by simp) ?_
            refine AllReadyH.cons rfl (fun K hK => ?_) AllReadyH.nil
            go_simp
            go_wp2_with (first | (go_at_call 55; refine (HK.out _).mono ?_; rintro e w2 ⟨rfl, hb2⟩; have hr2 : Below wr.heap.size wr w2 := (Below.refl _ wr).drew.trans (hb2.mono (by simp))))
            refine hK.out _ _ ?_ (fun hHeld => ?_)
            · try dsimp only
              exact keepS hr2 hgi ⟨x0, x1, x2, x3, x4, y0, y1, y2, y3, y4⟩
            clear hK K
            refine wpAnyH_take (i := 15) (oi := ⟨some 33, _, _, _, _, _⟩) (v := ?_) rfl (by kernel_rfl) (by kernel_rfl) (by kernel_rfl) (fun _ _ _ h => h) (Or.inl ⟨by rfl, ?_⟩) (by assumption) ?_
            rotate_left
            · intro w hSw
              try dsimp only at hSw
              go_simp
              try with_reducible rfl
            simp only [Act.put, List.setIfInBounds_toArray, List.set_cons_zero, List.set_cons_succ]
            refine wpAnyH_take (i := 16) (oi := ⟨some 34, _, _, _, _, _⟩) (v := ?_) rfl (by kernel_rfl) (by kernel_rfl) (by kernel_rfl) (fun _ _ _ h => h) (Or.inl ⟨by rfl, ?_⟩) (by assumption) ?_
            rotate_left
            · intro w hSw
              try dsimp only at hSw
              go_simp
              try with_reducible rfl
            simp only [Act.put, List.setIfInBounds_toArray, List.set_cons_zero, List.set_cons_succ]
            refine wpAnyH_done (by kernel_rfl) ?_ _
            have HO2 := hidP (HOi.out.later hr2)
            have HG2 := hidP (HGi.out.trans (below_grown' hr2 _))
            clear hr2 x0 x1 x2 x3 x4 y0 y1 y2 y3 y4 hHeld hb2
            go_wp2_with fail
            go_roundw
            case rel =>
              obtain ⟨f1, f2, f3, f4, f5, f6⟩ := HX.out
              obtain ⟨n1, n2⟩ := ins_next HOr.out HR.out.1 f2 f3 f5 f6 HR.out.2.2 (by intro L0' x' h; rw [HJ.out.2] at h; simp at h; rw [← h.2]; omega)
              refine ⟨k + 1, I + 1, L1 ++ y :: L2, by omega, by omega, by go_num, by have := HI.out; omega, by rw [f1]; exact n1, n2, ?_, HG2.out⟩
              have h := HO2.out
              simpa using h
            case measure => simp [intOf]; omega
    · have hE : OwnG KPl 48 wr B (.slice (some ⟨g, 0, none⟩) n cap) (p ++ (R ++ q)) ∧ R.Perm X := by
        have hk : X.length ≤ k := by have := HF.out; omega
        rw [List.drop_of_length_le hk, List.nil_append] at hown
        rw [List.take_of_length_le hk] at hpm
        exact ⟨hown, hpm⟩
      have HE := hidP hE
      have HSt := hidP hst
      have HG := hidP hgr
      clear hE hown hpm hst hgr HO
      go_wp2_with fail
      exact bodyPost_end (v := .tuple #[]) (by simp [results, Try.results103]) rfl ⟨⟨_, rfl⟩, ⟨R, HE.out.2, HSt.out, HE.out.1⟩, HG.out⟩

end Go.Proofs.Ythbpehpnikknlaa

namespace Go.Proofs.Ythbpehpnikknlaa
open Go.RowKit

set_option maxHeartbeats 1000000 in
theorem cmpPool_any (x y : Pl) (hx : x.p.pk = true) (hy : y.p.pk = true) (w : World) :
    Calls Try.prog 55 #[.agg #[.bool x.p.s, .int .i64 x.p.H.toInt, .int .i64 x.p.L.toInt, .int .i64 x.p.b, .int .i64 x.n], .agg #[.bool y.p.s, .int .i64 y.p.H.toInt, .int .i64 y.p.L.toInt, .int .i64 y.p.b, .int .i64 y.n]] w fun e w' => e = .returned (.int .i64 (cmpP x.p y.p)) ∧ Below w.heap.size w w' := by
  have HC := hidP (iCmpP x.p y.p hx hy)
  clear hx hy
  go_enter Try.func55, Try.ntmps55
  go_wp2_with fail
  obtain ⟨u0, u1, u2, u3, u4⟩ := boxPl (q := x) w 48
  have uB := alloc_below w (.cells #[.bool x.p.s, .int .i64 x.p.H.toInt, .int .i64 x.p.L.toInt, .int .i64 x.p.b, .int .i64 x.n] 48)
  have uL := alloc_lt w (.cells #[.bool x.p.s, .int .i64 x.p.H.toInt, .int .i64 x.p.L.toInt, .int .i64 x.p.b, .int .i64 x.n] 48)
  have uS : (w.alloc (.cells #[.bool x.p.s, .int .i64 x.p.H.toInt, .int .i64 x.p.L.toInt, .int .i64 x.p.b, .int .i64 x.n] 48)).heap.size = w.heap.size + 1 := by simp
  generalize w.alloc (.cells #[.bool x.p.s, .int .i64 x.p.H.toInt, .int .i64 x.p.L.toInt, .int .i64 x.p.b, .int .i64 x.n] 48) = W1 at *
  obtain ⟨y0, y1, y2, y3, y4⟩ := boxPl (q := y) W1 48
  have yB := alloc_below W1 (.cells #[.bool y.p.s, .int .i64 y.p.H.toInt, .int .i64 y.p.L.toInt, .int .i64 y.p.b, .int .i64 y.n] 48)
  have yL := alloc_lt W1 (.cells #[.bool y.p.s, .int .i64 y.p.H.toInt, .int .i64 y.p.L.toInt, .int .i64 y.p.b, .int .i64 y.n] 48)
  have yS : (W1.alloc (.cells #[.bool y.p.s, .int .i64 y.p.H.toInt, .int .i64 y.p.L.toInt, .int .i64 y.p.b, .int .i64 y.n] 48)).heap.size = W1.heap.size + 1 := by simp
  generalize W1.alloc (.cells #[.bool y.p.s, .int .i64 y.p.H.toInt, .int .i64 y.p.L.toInt, .int .i64 y.p.b, .int .i64 y.n] 48) = W2 at *
  rw [uS] at y0 y1 y2 y3 y4 yL yS
  have s0 := (yB.cell uL).trans u0
  have s1 := (yB.cell uL).trans u1
  have s2 := (yB.cell uL).trans u2
  have s3 := (yB.cell uL).trans u3
  have B1 := hidP (uB.trans (yB.mono uB.size))
  clear uB yB uS yS u0 u1 u2 u3 u4 uL
  go_wp2_with fail
  refine (HC.out _).mono ?_
  rintro e w2 ⟨rfl, hb2⟩
  have B2 := hidP (B1.out.trans (hb2.mono B1.out.size))
  clear hb2
  go_wp2_with fail
  go_ret
  exact ⟨rfl, B2.out⟩
theorem ordr_pool : Ordr (fun x : Pl => x.p.pk = true) (fun x y => cmpP x.p y.p) := by
  refine ⟨fun x y _ _ h h2 => ?_, fun x y z _ _ _ h1 h2 h3 => ?_⟩
  · rw [cmp_neg] at h h2
    cases hx : x.p.s <;> cases hy : y.p.s <;> simp [hx, hy] at h h2 <;> omega
  · rw [cmp_neg] at h1 h2 h3
    cases hx : x.p.s <;> cases hy : y.p.s <;> cases hz : z.p.s <;> simp [hx, hy, hz] at h1 h2 h3 <;> omega
theorem cmpr_pool : Cmpr (fun x : Pl => x.p.pk = true) (fun x y => cmpP x.p y.p) := fun x y hx hy w => cmpPool_any x y hx hy w

set_option maxRecDepth 10000 in
set_option maxHeartbeats 4000000 in
theorem stable_any (A : Pl → Prop) (c : Pl → Pl → Int) (ho : Ordr A c) (hc : Cmpr A c) (g n cap B : Nat) (X : List Pl) (hn : n = X.length) (hA : ∀ x ∈ X, A x) (hn9 : n ≤ 20) (w : World) (h : OwnG KPl 48 w B (.slice (some ⟨g, 0, none⟩) n cap) X) :
    Calls Try.prog 98 #[.slice (some ⟨g, 0, none⟩) n cap, .int .i64 n, .func (.func 55) #[] #[]] w fun e w' => (∃ v, e = .returned v) ∧ (∃ R, R.Perm X ∧ Srt c R ∧ OwnG KPl 48 w' B (.slice (some ⟨g, 0, none⟩) n cap) R) ∧ w.grownBy w' (some g) := by
  have HO := hidP h
  have HI := hidP (fun p X q a b ha hb hA W h => insertion_any A c ho hc g n cap B p X q a b ha hb hA (by omega) W h)
  have HA := hidP hA
  have HN := hidP hn
  clear h ho hc hA hn
  go_enter Try.func98, Try.ntmps98
  go_wp2_with fail
  go_loopw [7, 8] (fun t7 t8 wr => ∃ (a b : Nat) (R : List Pl), t7 = .int .i64 a ∧ t8 = .int .i64 b ∧ (a = 0 ∧ b = 20 ∧ R = X ∨ a = 20 ∧ b = 40 ∧ n = 20 ∧ R.Perm X ∧ Srt c R) ∧ OwnG KPl 48 wr B (.slice (some ⟨g, 0, none⟩) n cap) R ∧ w.grownBy wr (some g)) (fun _ t8 _ => 100 - (intOf t8).toNat)
  case atStart => exact ⟨0, 20, X, rfl, rfl, Or.inl ⟨rfl, rfl, rfl⟩, HO.out, World.grownBy.refl _ _⟩
  case round =>
    obtain ⟨a, b, R, rfl, rfl, hab, hown, hgr⟩ := hrel
    have HOw := hidP hown
    have HG := hidP hgr
    have HAB := hidP hab
    clear hown hgr HO
    by_cases hlt : b ≤ n
    · have hE : a = 0 ∧ b = 20 ∧ R = X ∧ n = 20 := by
        rcases hab with ⟨h1, h2, h3⟩ | ⟨h1, h2, h3, _⟩
        · exact ⟨h1, h2, h3, by omega⟩
        · omega
      obtain ⟨rfl, rfl, rfl, hn20⟩ := hE
      have HN20 := hidP hn20
      clear hab hn20
      go_wp2_with fail
      refine (HI.out [] R [] 0 20 rfl (by have := HN.out; have := HN20.out; simp; omega) HA.out _ (by simpa using HOw.out)).mono ?_
      rintro e w2 ⟨⟨v, rfl⟩, ⟨R2, hp2, hs2, ho2⟩, hg2⟩
      have HF := hidP (And.intro hp2 (And.intro hs2 (And.intro ho2 (HG.out.trans hg2))))
      clear hp2 hs2 ho2 hg2
      go_wp2_with fail
      go_roundw
      case rel => exact ⟨20, 40, R2, rfl, by go_num, Or.inr ⟨rfl, rfl, HN20.out, HF.out.1, HF.out.2.1⟩, by simpa using HF.out.2.2.1, HF.out.2.2.2⟩
      case measure => simp [intOf]
    · have hE : ∃ p Y, a = p.length ∧ n = p.length + Y.length ∧ R = p ++ (Y ++ []) ∧ (∀ x ∈ Y, A x) ∧ ∀ Z, Z.Perm Y → Srt c Z → (p ++ (Z ++ [])).Perm X ∧ Srt c (p ++ (Z ++ [])) := by
        rcases hab with ⟨rfl, rfl, rfl⟩ | ⟨rfl, rfl, h3, h4, h5⟩
        · exact ⟨[], R, rfl, by simpa using HN.out, by simp, HA.out, fun Z h1 h2 => by simpa using ⟨h1, h2⟩⟩
        · have hl := h4.length_eq
          refine ⟨R, [], by have := HN.out; omega, by have := HN.out; simp; omega, by simp, (fun x hx => by cases hx), fun Z h1 h2 => ?_⟩
          rw [List.perm_nil.1 h1]; simpa using ⟨h4, h5⟩
      obtain ⟨p, Y, h1, h2, h3, h4, h5⟩ := hE
      rw [h3] at HOw
      have H5 := hidP h5
      have HJ := hidP (And.intro h1 (And.intro h2 h4))
      clear h1 h2 h3 h4 h5 hab
      go_wp2_with fail
      refine (HI.out p Y [] a n HJ.out.1 HJ.out.2.1 HJ.out.2.2 _ HOw.out).mono ?_
      rintro e w2 ⟨⟨v, rfl⟩, ⟨R2, hp2, hs2, ho2⟩, hg2⟩
      have HF := hidP (And.intro (H5.out R2 hp2 hs2) (And.intro ho2 (HG.out.trans hg2)))
      clear hp2 hs2 ho2 hg2
      go_wp2_with fail
      go_loopw [6] (fun t6 wr => t6 = .int .i64 20 ∧ OwnG KPl 48 wr B (.slice (some ⟨g, 0, none⟩) n cap) (p ++ (R2 ++ [])) ∧ w.grownBy wr (some g)) (fun _ _ => 0)
      case atStart => exact ⟨rfl, HF.out.2.1, HF.out.2.2⟩
      case round =>
        obtain ⟨rfl, ho3, hg3⟩ := hrel
        have H3 := hidP (And.intro ho3 hg3)
        have dn : decide ((20 : Int) < (n : Int)) = false := decide_eq_false (by omega)
        clear ho3 hg3
        go_wp2_with fail
        exact bodyPost_end (v := .tuple #[]) (by simp [results, Try.results98]) rfl ⟨⟨_, rfl⟩, ⟨p ++ (R2 ++ []), HF.out.1.1, HF.out.1.2, H3.out.1⟩, H3.out.2⟩

set_option maxHeartbeats 1000000 in
theorem sortStable_any (A : Pl → Prop) (c : Pl → Pl → Int) (ho : Ordr A c) (hc : Cmpr A c) (g n cap B : Nat) (X : List Pl) (hn : n = X.length) (hA : ∀ x ∈ X, A x) (hn9 : n ≤ 20) (w : World) (h : OwnG KPl 48 w B (.slice (some ⟨g, 0, none⟩) n cap) X) :
    Calls Try.prog 85 #[.slice (some ⟨g, 0, none⟩) n cap, .func (.func 55) #[] #[]] w fun e w' => (∃ v, e = .returned v) ∧ (∃ R, R.Perm X ∧ Srt c R ∧ OwnG KPl 48 w' B (.slice (some ⟨g, 0, none⟩) n cap) R) ∧ w.grownBy w' (some g) := by
  have HS := hidP (stable_any A c ho hc g n cap B X hn hA hn9 w h)
  clear h ho hc hA hn
  go_enter Try.func85, Try.ntmps85
  go_wp2_with fail
  refine (HS.out).mono ?_
  rintro e w2 ⟨⟨v, rfl⟩, hR, hg⟩
  have HF := hidP (And.intro hR hg)
  clear hR hg
  go_wp2_with fail
  exact bodyPost_end (v := .tuple #[]) (by simp [results, Try.results85]) rfl ⟨⟨_, rfl⟩, HF.out⟩

set_option maxHeartbeats 1000000 in
theorem sortedBy_any (A : Pl → Prop) (c : Pl → Pl → Int) (ho : Ordr A c) (hc : Cmpr A c) (a : Option Addr) (n cap : Nat) (X : List Pl) (hn : n = X.length) (h0 : 0 < n) (hA : ∀ x ∈ X, A x) (hn9 : n ≤ 20) (w : World) (h : RowG KPl w a X) :
    Calls Try.prog 54 #[.slice a n cap, .func (.func 55) #[] #[]] w fun e w' => ∃ a' c' R, e = .returned (.slice a' n c') ∧ R.Perm X ∧ Srt c R ∧ OwnG KPl 48 w' w.heap.size (.slice a' n c') R ∧ Below w.heap.size w w' := by
  have HC := hidP (clonePool a n cap X w hn h (by omega))
  have HS := hidP (fun g cap' B W h => sortStable_any A c ho hc g n cap' B X hn hA hn9 W h)
  clear h ho hc hA hn
  go_enter Try.func54, Try.ntmps54
  go_wp2_with fail
  refine (HC.out).mono ?_
  rintro e w1 ⟨a1, c1, rfl, o1, hb1⟩
  obtain ⟨gg, rfl⟩ : ∃ gg, a1 = some ⟨gg, 0, none⟩ := by
    rcases o1.2 with ⟨hv, _⟩ | ⟨gg, cap', cur, hv, _⟩
    · simp at hv; omega
    · simp at hv; exact ⟨gg, hv.1⟩
  have lg := OwnG.lt o1 gg rfl
  have H1 := hidP (And.intro o1 (And.intro hb1 lg))
  clear o1 hb1 lg
  go_wp2_with fail
  refine (HS.out gg c1 w.heap.size _ H1.out.1).mono ?_
  rintro e w2 ⟨⟨v, rfl⟩, ⟨R, hp, hs, ho⟩, hg⟩
  have HF := hidP (And.intro hp (And.intro hs (And.intro ho (H1.out.2.1.grown hg H1.out.2.1.size (fun j hj => by simp at hj; have := H1.out.2.2; omega)))))
  clear hp hs ho hg
  go_wp2_with fail
  go_ret
  exact ⟨_, _, R, rfl, HF.out⟩

end Go.Proofs.Ythbpehpnikknlaa

namespace Go.Proofs.Ythbpehpnikknlaa
open Go.RowKit

set_option maxHeartbeats 1000000 in
/-- What AddPool asks of each pool. -/
theorem addOver_any (pq x : Pl) (cb : Nat) (w : World) (hL : cb < w.heap.size) (c0 : w.cell? ⟨cb, 0, none⟩ = some (.bool pq.p.s)) (c1 : w.cell? ⟨cb, 1, none⟩ = some (.int .i64 pq.p.H.toInt)) (c2 : w.cell? ⟨cb, 2, none⟩ = some (.int .i64 pq.p.L.toInt)) (c3 : w.cell? ⟨cb, 3, none⟩ = some (.int .i64 pq.p.b)) :
    Calls Try.prog 52 #[.agg #[.bool x.p.s, .int .i64 x.p.H.toInt, .int .i64 x.p.L.toInt, .int .i64 x.p.b, .int .i64 x.n], .pointer (some ⟨cb, 0, none⟩)] w fun e w' => e = .returned (.bool (ovP x.p pq.p)) ∧ Below w.heap.size w w' := by
  have HO := hidP (iOverlaps_any x.p.s x.p.H x.p.L x.p.b pq.p.s pq.p.H pq.p.L pq.p.b)
  change Hid (∀ w, Calls Try.prog 53 _ w fun e w' => e = .returned (.bool (ovP x.p pq.p)) ∧ Below w.heap.size w w') at HO
  go_enter Try.func52, Try.ntmps52
  go_wp2_with fail
  obtain ⟨y0, y1, y2, y3, y4⟩ := boxPl (q := x) w 48
  have yB := alloc_below w (.cells #[.bool x.p.s, .int .i64 x.p.H.toInt, .int .i64 x.p.L.toInt, .int .i64 x.p.b, .int .i64 x.n] 48)
  have yL := alloc_lt w (.cells #[.bool x.p.s, .int .i64 x.p.H.toInt, .int .i64 x.p.L.toInt, .int .i64 x.p.b, .int .i64 x.n] 48)
  have yS : (w.alloc (.cells #[.bool x.p.s, .int .i64 x.p.H.toInt, .int .i64 x.p.L.toInt, .int .i64 x.p.b, .int .i64 x.n] 48)).heap.size = w.heap.size + 1 := by simp
  generalize w.alloc (.cells #[.bool x.p.s, .int .i64 x.p.H.toInt, .int .i64 x.p.L.toInt, .int .i64 x.p.b, .int .i64 x.n] 48) = W1 at *
  have d0 := (yB.cell hL).trans c0
  have d1 := (yB.cell hL).trans c1
  have d2 := (yB.cell hL).trans c2
  have d3 := (yB.cell hL).trans c3
  have B1 := hidP yB
  clear yB yS c0 c1 c2 c3
  go_wp2_with fail
  refine (HO.out _).mono ?_
  rintro e w2 ⟨rfl, hb2⟩
  have B2 := hidP (B1.out.trans (hb2.mono B1.out.size))
  clear hb2
  go_wp2_with fail
  go_ret
  exact ⟨rfl, B2.out⟩

set_option maxRecDepth 10000 in
set_option maxHeartbeats 4000000 in
theorem iAdd_a (pq : Pl) (g h : Nat) (np nb : Nat) (ps : List Pl) (bs : List Bk) (w : World) (hnp : np = ps.length) (hnb : nb = bs.length) (hP : RowG KPl w (some ⟨g, 0, none⟩) ps) (hK : RowG KBk w (some ⟨h, 0, none⟩) bs) (hl : np ≤ 1048576) (hl' : nb ≤ 1048576) (hst : ∀ q ∈ bs, q.t.size ≤ 9223372036854775807) (hr : planB ps bs = false) :
    Calls Try.prog 18 #[.agg #[.slice (some ⟨g, 0, none⟩) np np, .slice (some ⟨h, 0, none⟩) nb nb], .agg #[.bool pq.p.s, .int .i64 pq.p.H.toInt, .int .i64 pq.p.L.toInt, .int .i64 pq.p.b, .int .i64 pq.n]] w fun e w' => ∃ a c b d, e = .returned (.tuple #[.agg #[.slice a np c, .slice b nb d], .int .i64 (1)]) ∧ OwnG KPl 48 w' w.heap.size (.slice a np c) (ps) ∧ OwnG KBk 56 w' w.heap.size (.slice b nb d) (bs) ∧ (∀ k, (Value.slice a np c).ownBlock = some k → (Value.slice b nb d).ownBlock ≠ some k) ∧ Below w.heap.size w w' := by
  have HOw := hidP (fun W h' => ownPlan_any (some ⟨g, 0, none⟩) np np (some ⟨h, 0, none⟩) nb nb ps bs W hnp hnb (hP.later h') (hK.later h') hl hl')
  have HPO := hidP (fun W a c b d e1 e2 => iPlanOk_any a np c b nb d ps bs W hnp hnb e1 e2 (by omega) (by omega) hst)
  have HPk := hidP (fun W => iPoolOk_any pq W)
  have HCt := hidP (fun W cb a c e1 hf => cont_over (fun x => ovP x.p pq.p) cb a np c ps W hnp e1 (by omega) hf)
  have HN := hidP (And.intro hnp hnb)
  clear hP hK hnp hnb hst
  rw [hr] at HPO
  go_enter Try.func18, Try.ntmps18
  go_wp2_with fail
  have uF := frz2 w 32 (.slice (some ⟨g, 0, none⟩) np np) (.slice (some ⟨h, 0, none⟩) nb nb)
  obtain ⟨u0, u1⟩ := box2 (u := .slice (some ⟨g, 0, none⟩) np np) (v := .slice (some ⟨h, 0, none⟩) nb nb) w 32
  have uB := alloc_below w (.cells #[.slice (some ⟨g, 0, none⟩) np np, .slice (some ⟨h, 0, none⟩) nb nb] 32)
  have uL := alloc_lt w (.cells #[.slice (some ⟨g, 0, none⟩) np np, .slice (some ⟨h, 0, none⟩) nb nb] 32)
  have uS : (w.alloc (.cells #[.slice (some ⟨g, 0, none⟩) np np, .slice (some ⟨h, 0, none⟩) nb nb] 32)).heap.size = w.heap.size + 1 := by simp
  generalize w.alloc (.cells #[.slice (some ⟨g, 0, none⟩) np np, .slice (some ⟨h, 0, none⟩) nb nb] 32) = W1 at *
  obtain ⟨y0, y1, y2, y3, y4⟩ := boxPl (q := pq) W1 48
  have yB := alloc_below W1 (.cells #[.bool pq.p.s, .int .i64 pq.p.H.toInt, .int .i64 pq.p.L.toInt, .int .i64 pq.p.b, .int .i64 pq.n] 48)
  have yL := alloc_lt W1 (.cells #[.bool pq.p.s, .int .i64 pq.p.H.toInt, .int .i64 pq.p.L.toInt, .int .i64 pq.p.b, .int .i64 pq.n] 48)
  have yS : (W1.alloc (.cells #[.bool pq.p.s, .int .i64 pq.p.H.toInt, .int .i64 pq.p.L.toInt, .int .i64 pq.p.b, .int .i64 pq.n] 48)).heap.size = W1.heap.size + 1 := by simp
  generalize W1.alloc (.cells #[.bool pq.p.s, .int .i64 pq.p.H.toInt, .int .i64 pq.p.L.toInt, .int .i64 pq.p.b, .int .i64 pq.n] 48) = W2 at *
  rw [uS] at y0 y1 y2 y3 y4 yL yS
  have kF := frz2 W2 32 (.slice none 0 0) (.slice none 0 0)
  obtain ⟨k0, k1⟩ := box2 (u := .slice none 0 0) (v := .slice none 0 0) W2 32
  have kB := alloc_below W2 (.cells #[.slice none 0 0, .slice none 0 0] 32)
  have kL := alloc_lt W2 (.cells #[.slice none 0 0, .slice none 0 0] 32)
  have kS : (W2.alloc (.cells #[.slice none 0 0, .slice none 0 0] 32)).heap.size = W2.heap.size + 1 := by simp
  generalize W2.alloc (.cells #[.slice none 0 0, .slice none 0 0] 32) = W3 at *
  rw [yS] at k0 k1 kL kS
  rw [yS] at kF
  have l0 : w.heap.size < W2.heap.size := by omega
  have l1 : w.heap.size + 1 < W2.heap.size := by omega
  have U0 := (kB.cell l0).trans ((yB.cell uL).trans u0)
  have U1 := (kB.cell l0).trans ((yB.cell uL).trans u1)
  have UF : ∀ o, W3.frozen? ⟨w.heap.size, o, none⟩ = false := fun o => (kB.frozen l0).trans ((yB.frozen uL).trans (uF o))
  have Y0 := (kB.cell l1).trans y0
  have Y1 := (kB.cell l1).trans y1
  have Y2 := (kB.cell l1).trans y2
  have Y3 := (kB.cell l1).trans y3
  have Y4 := (kB.cell l1).trans y4
  have acc0 := hidP ((uB.trans (yB.mono uB.size)).trans (kB.mono (Nat.le_trans uB.size yB.size)))
  have UL : w.heap.size < W3.heap.size := by omega
  have YL : w.heap.size + 1 < W3.heap.size := by omega
  have kL3 : w.heap.size + 1 + 1 < W3.heap.size := by omega
  have UL9 := UL
  have kL9 := kL3
  clear uB yB kB uS yS kS u0 u1 y0 y1 y2 y3 y4 uL yL kL uF l0 l1
  refine (HOw.out _ acc0.out).mono ?_
  rintro e w4 ⟨a, c, b, d, rfl, op, ob, hne, hb4⟩
  have pb0_w4 := (hb4.cell UL).trans U0
  have pb1_w4 := (hb4.cell UL).trans U1
  have pbF_w4 : ∀ o, w4.frozen? ⟨w.heap.size, o, none⟩ = false := fun o => (hb4.frozen UL).trans (UF o)
  have pbL_w4 : w.heap.size < w4.heap.size := Nat.lt_of_lt_of_le UL hb4.size
  have at0_w4 := (hb4.cell YL).trans Y0
  have at1_w4 := (hb4.cell YL).trans Y1
  have at2_w4 := (hb4.cell YL).trans Y2
  have at3_w4 := (hb4.cell YL).trans Y3
  have at4_w4 := (hb4.cell YL).trans Y4
  have atL_w4 : w.heap.size + 1 < w4.heap.size := Nat.lt_of_lt_of_le YL hb4.size
  have rs0_w4 := (hb4.cell kL3).trans k0
  have rs1_w4 := (hb4.cell kL3).trans k1
  have rsF_w4 : ∀ o, w4.frozen? ⟨w.heap.size + 1 + 1, o, none⟩ = false := fun o => (hb4.frozen kL3).trans (kF o)
  have rsL_w4 : w.heap.size + 1 + 1 < w4.heap.size := Nat.lt_of_lt_of_le kL3 hb4.size
  have acc_w4 := hidP (acc0.out.trans (hb4.mono acc0.out.size))
  have oP_w4 := hidP op
  have oB_w4 := hidP ob
  have HNE := hidP hne
  clear UF U0 U1 UL Y0 Y1 Y2 Y3 Y4 YL kF k0 k1 kL3 acc0 hb4 op ob hne
  go_wp2_with fail
  have p0 : ((w4.setCell ⟨w.heap.size, 0, none⟩ (.slice a np c)).setCell ⟨w.heap.size, 1, none⟩ (.slice b nb d)).cell? ⟨w.heap.size, 0, none⟩ = some (.slice a np c) := by simp [go_sem, pb0_w4]
  have p1 : ((w4.setCell ⟨w.heap.size, 0, none⟩ (.slice a np c)).setCell ⟨w.heap.size, 1, none⟩ (.slice b nb d)).cell? ⟨w.heap.size, 1, none⟩ = some (.slice b nb d) := by simp [go_sem, pb1_w4]
  have pF : ∀ o, ((w4.setCell ⟨w.heap.size, 0, none⟩ (.slice a np c)).setCell ⟨w.heap.size, 1, none⟩ (.slice b nb d)).frozen? ⟨w.heap.size, o, none⟩ = false := fun o => by simp [go_sem, pbF_w4 o]
  have q0 : ((w4.setCell ⟨w.heap.size, 0, none⟩ (.slice a np c)).setCell ⟨w.heap.size, 1, none⟩ (.slice b nb d)).cell? ⟨w.heap.size + 1, 0, none⟩ = _ := cell_set2 at0_w4 (by omega)
  have q1 : ((w4.setCell ⟨w.heap.size, 0, none⟩ (.slice a np c)).setCell ⟨w.heap.size, 1, none⟩ (.slice b nb d)).cell? ⟨w.heap.size + 1, 1, none⟩ = _ := cell_set2 at1_w4 (by omega)
  have q2 : ((w4.setCell ⟨w.heap.size, 0, none⟩ (.slice a np c)).setCell ⟨w.heap.size, 1, none⟩ (.slice b nb d)).cell? ⟨w.heap.size + 1, 2, none⟩ = _ := cell_set2 at2_w4 (by omega)
  have q3 : ((w4.setCell ⟨w.heap.size, 0, none⟩ (.slice a np c)).setCell ⟨w.heap.size, 1, none⟩ (.slice b nb d)).cell? ⟨w.heap.size + 1, 3, none⟩ = _ := cell_set2 at3_w4 (by omega)
  have q4 : ((w4.setCell ⟨w.heap.size, 0, none⟩ (.slice a np c)).setCell ⟨w.heap.size, 1, none⟩ (.slice b nb d)).cell? ⟨w.heap.size + 1, 4, none⟩ = _ := cell_set2 at4_w4 (by omega)
  have r0 : ((w4.setCell ⟨w.heap.size, 0, none⟩ (.slice a np c)).setCell ⟨w.heap.size, 1, none⟩ (.slice b nb d)).cell? ⟨w.heap.size + 1 + 1, 0, none⟩ = _ := cell_set2 rs0_w4 (by omega)
  have r1 : ((w4.setCell ⟨w.heap.size, 0, none⟩ (.slice a np c)).setCell ⟨w.heap.size, 1, none⟩ (.slice b nb d)).cell? ⟨w.heap.size + 1 + 1, 1, none⟩ = _ := cell_set2 rs1_w4 (by omega)
  have rF : ∀ o, ((w4.setCell ⟨w.heap.size, 0, none⟩ (.slice a np c)).setCell ⟨w.heap.size, 1, none⟩ (.slice b nb d)).frozen? ⟨w.heap.size + 1 + 1, o, none⟩ = false := fun o => frz_set2 (rsF_w4 o) (by omega)
  have oP5 : Hid (OwnG KPl 48 ((w4.setCell ⟨w.heap.size, 0, none⟩ (.slice a np c)).setCell ⟨w.heap.size, 1, none⟩ (.slice b nb d)) W3.heap.size (.slice a np c) ps) := hidP (OwnG.set2 oP_w4.out UL9)
  have oB5 : Hid (OwnG KBk 56 ((w4.setCell ⟨w.heap.size, 0, none⟩ (.slice a np c)).setCell ⟨w.heap.size, 1, none⟩ (.slice b nb d)) W3.heap.size (.slice b nb d) bs) := hidP (OwnG.set2 oB_w4.out UL9)
  have acc5 : Hid (Below w.heap.size w ((w4.setCell ⟨w.heap.size, 0, none⟩ (.slice a np c)).setCell ⟨w.heap.size, 1, none⟩ (.slice b nb d))) := hidP (below_set2 acc_w4.out (Nat.le_refl _))
  have sL5 : ((w4.setCell ⟨w.heap.size, 0, none⟩ (.slice a np c)).setCell ⟨w.heap.size, 1, none⟩ (.slice b nb d)).heap.size = w4.heap.size := by simp
  generalize ((w4.setCell ⟨w.heap.size, 0, none⟩ (.slice a np c)).setCell ⟨w.heap.size, 1, none⟩ (.slice b nb d)) = W5 at *
  have pL5 : w.heap.size < W5.heap.size := by have := pbL_w4; omega
  have qL5 : w.heap.size + 1 < W5.heap.size := by have := atL_w4; omega
  have rL5 : w.heap.size + 1 + 1 < W5.heap.size := by have := rsL_w4; omega
  clear pb0_w4 pb1_w4 pbL_w4 at0_w4 at1_w4 at2_w4 at3_w4 at4_w4 atL_w4 rs0_w4 rs1_w4 rsL_w4 pbF_w4 rsF_w4 oP_w4 oB_w4 acc_w4 sL5
  refine (HPO.out _ a c b d oP5.out.row oB5.out.row).mono ?_
  rintro e w6 ⟨rfl, hb6⟩
  have pb0_w6 := (hb6.cell pL5).trans p0
  have pb1_w6 := (hb6.cell pL5).trans p1
  have pbF_w6 : ∀ o, w6.frozen? ⟨w.heap.size, o, none⟩ = false := fun o => (hb6.frozen pL5).trans (pF o)
  have pbL_w6 : w.heap.size < w6.heap.size := Nat.lt_of_lt_of_le pL5 hb6.size
  have at0_w6 := (hb6.cell qL5).trans q0
  have at1_w6 := (hb6.cell qL5).trans q1
  have at2_w6 := (hb6.cell qL5).trans q2
  have at3_w6 := (hb6.cell qL5).trans q3
  have at4_w6 := (hb6.cell qL5).trans q4
  have atL_w6 : w.heap.size + 1 < w6.heap.size := Nat.lt_of_lt_of_le qL5 hb6.size
  have rs0_w6 := (hb6.cell rL5).trans r0
  have rs1_w6 := (hb6.cell rL5).trans r1
  have rsF_w6 : ∀ o, w6.frozen? ⟨w.heap.size + 1 + 1, o, none⟩ = false := fun o => (hb6.frozen rL5).trans (rF o)
  have rsL_w6 : w.heap.size + 1 + 1 < w6.heap.size := Nat.lt_of_lt_of_le rL5 hb6.size
  have oP_w6 := hidP (OwnG.later oP5.out hb6)
  have oB_w6 := hidP (OwnG.later oB5.out hb6)
  have acc_w6 := hidP (acc5.out.trans (hb6.mono acc5.out.size))
  clear pF p0 p1 pL5 q0 q1 q2 q3 q4 qL5 rF r0 r1 rL5 oP5 oB5 acc5 hb6
  go_wp2_with fail
  refine bodyPost_ret (v := .tuple #[.agg #[.slice a np c, .slice b nb d], .int .i64 1]) (by simp [results, Try.results18, go_sem, rs0_w6, rs1_w6]) rfl ⟨_, _, _, _, rfl, (OwnG.set2 oP_w6.out kL9).mono (Nat.le_of_lt UL9), (OwnG.set2 oB_w6.out kL9).mono (Nat.le_of_lt UL9), HNE.out, below_set2 acc_w6.out (by omega)⟩

set_option maxRecDepth 10000 in
set_option maxHeartbeats 4000000 in
theorem iAdd_b (pq : Pl) (g h : Nat) (np nb : Nat) (ps : List Pl) (bs : List Bk) (w : World) (hnp : np = ps.length) (hnb : nb = bs.length) (hP : RowG KPl w (some ⟨g, 0, none⟩) ps) (hK : RowG KBk w (some ⟨h, 0, none⟩) bs) (hl : np ≤ 1048576) (hl' : nb ≤ 1048576) (hst : ∀ q ∈ bs, q.t.size ≤ 9223372036854775807) (hr : planB ps bs = true) (hk : okPl pq = false) :
    Calls Try.prog 18 #[.agg #[.slice (some ⟨g, 0, none⟩) np np, .slice (some ⟨h, 0, none⟩) nb nb], .agg #[.bool pq.p.s, .int .i64 pq.p.H.toInt, .int .i64 pq.p.L.toInt, .int .i64 pq.p.b, .int .i64 pq.n]] w fun e w' => ∃ a c b d, e = .returned (.tuple #[.agg #[.slice a np c, .slice b nb d], .int .i64 (1)]) ∧ OwnG KPl 48 w' w.heap.size (.slice a np c) (ps) ∧ OwnG KBk 56 w' w.heap.size (.slice b nb d) (bs) ∧ (∀ k, (Value.slice a np c).ownBlock = some k → (Value.slice b nb d).ownBlock ≠ some k) ∧ Below w.heap.size w w' := by
  have HOw := hidP (fun W h' => ownPlan_any (some ⟨g, 0, none⟩) np np (some ⟨h, 0, none⟩) nb nb ps bs W hnp hnb (hP.later h') (hK.later h') hl hl')
  have HPO := hidP (fun W a c b d e1 e2 => iPlanOk_any a np c b nb d ps bs W hnp hnb e1 e2 (by omega) (by omega) hst)
  have HPk := hidP (fun W => iPoolOk_any pq W)
  have HCt := hidP (fun W cb a c e1 hf => cont_over (fun x => ovP x.p pq.p) cb a np c ps W hnp e1 (by omega) hf)
  have HN := hidP (And.intro hnp hnb)
  clear hP hK hnp hnb hst
  rw [hr] at HPO
  rw [hk] at HPk
  go_enter Try.func18, Try.ntmps18
  go_wp2_with fail
  have uF := frz2 w 32 (.slice (some ⟨g, 0, none⟩) np np) (.slice (some ⟨h, 0, none⟩) nb nb)
  obtain ⟨u0, u1⟩ := box2 (u := .slice (some ⟨g, 0, none⟩) np np) (v := .slice (some ⟨h, 0, none⟩) nb nb) w 32
  have uB := alloc_below w (.cells #[.slice (some ⟨g, 0, none⟩) np np, .slice (some ⟨h, 0, none⟩) nb nb] 32)
  have uL := alloc_lt w (.cells #[.slice (some ⟨g, 0, none⟩) np np, .slice (some ⟨h, 0, none⟩) nb nb] 32)
  have uS : (w.alloc (.cells #[.slice (some ⟨g, 0, none⟩) np np, .slice (some ⟨h, 0, none⟩) nb nb] 32)).heap.size = w.heap.size + 1 := by simp
  generalize w.alloc (.cells #[.slice (some ⟨g, 0, none⟩) np np, .slice (some ⟨h, 0, none⟩) nb nb] 32) = W1 at *
  obtain ⟨y0, y1, y2, y3, y4⟩ := boxPl (q := pq) W1 48
  have yB := alloc_below W1 (.cells #[.bool pq.p.s, .int .i64 pq.p.H.toInt, .int .i64 pq.p.L.toInt, .int .i64 pq.p.b, .int .i64 pq.n] 48)
  have yL := alloc_lt W1 (.cells #[.bool pq.p.s, .int .i64 pq.p.H.toInt, .int .i64 pq.p.L.toInt, .int .i64 pq.p.b, .int .i64 pq.n] 48)
  have yS : (W1.alloc (.cells #[.bool pq.p.s, .int .i64 pq.p.H.toInt, .int .i64 pq.p.L.toInt, .int .i64 pq.p.b, .int .i64 pq.n] 48)).heap.size = W1.heap.size + 1 := by simp
  generalize W1.alloc (.cells #[.bool pq.p.s, .int .i64 pq.p.H.toInt, .int .i64 pq.p.L.toInt, .int .i64 pq.p.b, .int .i64 pq.n] 48) = W2 at *
  rw [uS] at y0 y1 y2 y3 y4 yL yS
  have kF := frz2 W2 32 (.slice none 0 0) (.slice none 0 0)
  obtain ⟨k0, k1⟩ := box2 (u := .slice none 0 0) (v := .slice none 0 0) W2 32
  have kB := alloc_below W2 (.cells #[.slice none 0 0, .slice none 0 0] 32)
  have kL := alloc_lt W2 (.cells #[.slice none 0 0, .slice none 0 0] 32)
  have kS : (W2.alloc (.cells #[.slice none 0 0, .slice none 0 0] 32)).heap.size = W2.heap.size + 1 := by simp
  generalize W2.alloc (.cells #[.slice none 0 0, .slice none 0 0] 32) = W3 at *
  rw [yS] at k0 k1 kL kS
  rw [yS] at kF
  have l0 : w.heap.size < W2.heap.size := by omega
  have l1 : w.heap.size + 1 < W2.heap.size := by omega
  have U0 := (kB.cell l0).trans ((yB.cell uL).trans u0)
  have U1 := (kB.cell l0).trans ((yB.cell uL).trans u1)
  have UF : ∀ o, W3.frozen? ⟨w.heap.size, o, none⟩ = false := fun o => (kB.frozen l0).trans ((yB.frozen uL).trans (uF o))
  have Y0 := (kB.cell l1).trans y0
  have Y1 := (kB.cell l1).trans y1
  have Y2 := (kB.cell l1).trans y2
  have Y3 := (kB.cell l1).trans y3
  have Y4 := (kB.cell l1).trans y4
  have acc0 := hidP ((uB.trans (yB.mono uB.size)).trans (kB.mono (Nat.le_trans uB.size yB.size)))
  have UL : w.heap.size < W3.heap.size := by omega
  have YL : w.heap.size + 1 < W3.heap.size := by omega
  have kL3 : w.heap.size + 1 + 1 < W3.heap.size := by omega
  have UL9 := UL
  have kL9 := kL3
  clear uB yB kB uS yS kS u0 u1 y0 y1 y2 y3 y4 uL yL kL uF l0 l1
  refine (HOw.out _ acc0.out).mono ?_
  rintro e w4 ⟨a, c, b, d, rfl, op, ob, hne, hb4⟩
  have pb0_w4 := (hb4.cell UL).trans U0
  have pb1_w4 := (hb4.cell UL).trans U1
  have pbF_w4 : ∀ o, w4.frozen? ⟨w.heap.size, o, none⟩ = false := fun o => (hb4.frozen UL).trans (UF o)
  have pbL_w4 : w.heap.size < w4.heap.size := Nat.lt_of_lt_of_le UL hb4.size
  have at0_w4 := (hb4.cell YL).trans Y0
  have at1_w4 := (hb4.cell YL).trans Y1
  have at2_w4 := (hb4.cell YL).trans Y2
  have at3_w4 := (hb4.cell YL).trans Y3
  have at4_w4 := (hb4.cell YL).trans Y4
  have atL_w4 : w.heap.size + 1 < w4.heap.size := Nat.lt_of_lt_of_le YL hb4.size
  have rs0_w4 := (hb4.cell kL3).trans k0
  have rs1_w4 := (hb4.cell kL3).trans k1
  have rsF_w4 : ∀ o, w4.frozen? ⟨w.heap.size + 1 + 1, o, none⟩ = false := fun o => (hb4.frozen kL3).trans (kF o)
  have rsL_w4 : w.heap.size + 1 + 1 < w4.heap.size := Nat.lt_of_lt_of_le kL3 hb4.size
  have acc_w4 := hidP (acc0.out.trans (hb4.mono acc0.out.size))
  have oP_w4 := hidP op
  have oB_w4 := hidP ob
  have HNE := hidP hne
  clear UF U0 U1 UL Y0 Y1 Y2 Y3 Y4 YL kF k0 k1 kL3 acc0 hb4 op ob hne
  go_wp2_with fail
  have p0 : ((w4.setCell ⟨w.heap.size, 0, none⟩ (.slice a np c)).setCell ⟨w.heap.size, 1, none⟩ (.slice b nb d)).cell? ⟨w.heap.size, 0, none⟩ = some (.slice a np c) := by simp [go_sem, pb0_w4]
  have p1 : ((w4.setCell ⟨w.heap.size, 0, none⟩ (.slice a np c)).setCell ⟨w.heap.size, 1, none⟩ (.slice b nb d)).cell? ⟨w.heap.size, 1, none⟩ = some (.slice b nb d) := by simp [go_sem, pb1_w4]
  have pF : ∀ o, ((w4.setCell ⟨w.heap.size, 0, none⟩ (.slice a np c)).setCell ⟨w.heap.size, 1, none⟩ (.slice b nb d)).frozen? ⟨w.heap.size, o, none⟩ = false := fun o => by simp [go_sem, pbF_w4 o]
  have q0 : ((w4.setCell ⟨w.heap.size, 0, none⟩ (.slice a np c)).setCell ⟨w.heap.size, 1, none⟩ (.slice b nb d)).cell? ⟨w.heap.size + 1, 0, none⟩ = _ := cell_set2 at0_w4 (by omega)
  have q1 : ((w4.setCell ⟨w.heap.size, 0, none⟩ (.slice a np c)).setCell ⟨w.heap.size, 1, none⟩ (.slice b nb d)).cell? ⟨w.heap.size + 1, 1, none⟩ = _ := cell_set2 at1_w4 (by omega)
  have q2 : ((w4.setCell ⟨w.heap.size, 0, none⟩ (.slice a np c)).setCell ⟨w.heap.size, 1, none⟩ (.slice b nb d)).cell? ⟨w.heap.size + 1, 2, none⟩ = _ := cell_set2 at2_w4 (by omega)
  have q3 : ((w4.setCell ⟨w.heap.size, 0, none⟩ (.slice a np c)).setCell ⟨w.heap.size, 1, none⟩ (.slice b nb d)).cell? ⟨w.heap.size + 1, 3, none⟩ = _ := cell_set2 at3_w4 (by omega)
  have q4 : ((w4.setCell ⟨w.heap.size, 0, none⟩ (.slice a np c)).setCell ⟨w.heap.size, 1, none⟩ (.slice b nb d)).cell? ⟨w.heap.size + 1, 4, none⟩ = _ := cell_set2 at4_w4 (by omega)
  have r0 : ((w4.setCell ⟨w.heap.size, 0, none⟩ (.slice a np c)).setCell ⟨w.heap.size, 1, none⟩ (.slice b nb d)).cell? ⟨w.heap.size + 1 + 1, 0, none⟩ = _ := cell_set2 rs0_w4 (by omega)
  have r1 : ((w4.setCell ⟨w.heap.size, 0, none⟩ (.slice a np c)).setCell ⟨w.heap.size, 1, none⟩ (.slice b nb d)).cell? ⟨w.heap.size + 1 + 1, 1, none⟩ = _ := cell_set2 rs1_w4 (by omega)
  have rF : ∀ o, ((w4.setCell ⟨w.heap.size, 0, none⟩ (.slice a np c)).setCell ⟨w.heap.size, 1, none⟩ (.slice b nb d)).frozen? ⟨w.heap.size + 1 + 1, o, none⟩ = false := fun o => frz_set2 (rsF_w4 o) (by omega)
  have oP5 : Hid (OwnG KPl 48 ((w4.setCell ⟨w.heap.size, 0, none⟩ (.slice a np c)).setCell ⟨w.heap.size, 1, none⟩ (.slice b nb d)) W3.heap.size (.slice a np c) ps) := hidP (OwnG.set2 oP_w4.out UL9)
  have oB5 : Hid (OwnG KBk 56 ((w4.setCell ⟨w.heap.size, 0, none⟩ (.slice a np c)).setCell ⟨w.heap.size, 1, none⟩ (.slice b nb d)) W3.heap.size (.slice b nb d) bs) := hidP (OwnG.set2 oB_w4.out UL9)
  have acc5 : Hid (Below w.heap.size w ((w4.setCell ⟨w.heap.size, 0, none⟩ (.slice a np c)).setCell ⟨w.heap.size, 1, none⟩ (.slice b nb d))) := hidP (below_set2 acc_w4.out (Nat.le_refl _))
  have sL5 : ((w4.setCell ⟨w.heap.size, 0, none⟩ (.slice a np c)).setCell ⟨w.heap.size, 1, none⟩ (.slice b nb d)).heap.size = w4.heap.size := by simp
  generalize ((w4.setCell ⟨w.heap.size, 0, none⟩ (.slice a np c)).setCell ⟨w.heap.size, 1, none⟩ (.slice b nb d)) = W5 at *
  have pL5 : w.heap.size < W5.heap.size := by have := pbL_w4; omega
  have qL5 : w.heap.size + 1 < W5.heap.size := by have := atL_w4; omega
  have rL5 : w.heap.size + 1 + 1 < W5.heap.size := by have := rsL_w4; omega
  clear pb0_w4 pb1_w4 pbL_w4 at0_w4 at1_w4 at2_w4 at3_w4 at4_w4 atL_w4 rs0_w4 rs1_w4 rsL_w4 pbF_w4 rsF_w4 oP_w4 oB_w4 acc_w4 sL5
  refine (HPO.out _ a c b d oP5.out.row oB5.out.row).mono ?_
  rintro e w6 ⟨rfl, hb6⟩
  have pb0_w6 := (hb6.cell pL5).trans p0
  have pb1_w6 := (hb6.cell pL5).trans p1
  have pbF_w6 : ∀ o, w6.frozen? ⟨w.heap.size, o, none⟩ = false := fun o => (hb6.frozen pL5).trans (pF o)
  have pbL_w6 : w.heap.size < w6.heap.size := Nat.lt_of_lt_of_le pL5 hb6.size
  have at0_w6 := (hb6.cell qL5).trans q0
  have at1_w6 := (hb6.cell qL5).trans q1
  have at2_w6 := (hb6.cell qL5).trans q2
  have at3_w6 := (hb6.cell qL5).trans q3
  have at4_w6 := (hb6.cell qL5).trans q4
  have atL_w6 : w.heap.size + 1 < w6.heap.size := Nat.lt_of_lt_of_le qL5 hb6.size
  have rs0_w6 := (hb6.cell rL5).trans r0
  have rs1_w6 := (hb6.cell rL5).trans r1
  have rsF_w6 : ∀ o, w6.frozen? ⟨w.heap.size + 1 + 1, o, none⟩ = false := fun o => (hb6.frozen rL5).trans (rF o)
  have rsL_w6 : w.heap.size + 1 + 1 < w6.heap.size := Nat.lt_of_lt_of_le rL5 hb6.size
  have oP_w6 := hidP (OwnG.later oP5.out hb6)
  have oB_w6 := hidP (OwnG.later oB5.out hb6)
  have acc_w6 := hidP (acc5.out.trans (hb6.mono acc5.out.size))
  clear pF p0 p1 pL5 q0 q1 q2 q3 q4 qL5 rF r0 r1 rL5 oP5 oB5 acc5 hb6
  go_wp2_with fail
  refine (HPk.out _).mono ?_
  rintro e w7 ⟨rfl, hb7⟩
  have pb0_w7 := (hb7.cell pbL_w6).trans pb0_w6
  have pb1_w7 := (hb7.cell pbL_w6).trans pb1_w6
  have pbF_w7 : ∀ o, w7.frozen? ⟨w.heap.size, o, none⟩ = false := fun o => (hb7.frozen pbL_w6).trans (pbF_w6 o)
  have pbL_w7 : w.heap.size < w7.heap.size := Nat.lt_of_lt_of_le pbL_w6 hb7.size
  have at0_w7 := (hb7.cell atL_w6).trans at0_w6
  have at1_w7 := (hb7.cell atL_w6).trans at1_w6
  have at2_w7 := (hb7.cell atL_w6).trans at2_w6
  have at3_w7 := (hb7.cell atL_w6).trans at3_w6
  have at4_w7 := (hb7.cell atL_w6).trans at4_w6
  have atL_w7 : w.heap.size + 1 < w7.heap.size := Nat.lt_of_lt_of_le atL_w6 hb7.size
  have rs0_w7 := (hb7.cell rsL_w6).trans rs0_w6
  have rs1_w7 := (hb7.cell rsL_w6).trans rs1_w6
  have rsF_w7 : ∀ o, w7.frozen? ⟨w.heap.size + 1 + 1, o, none⟩ = false := fun o => (hb7.frozen rsL_w6).trans (rsF_w6 o)
  have rsL_w7 : w.heap.size + 1 + 1 < w7.heap.size := Nat.lt_of_lt_of_le rsL_w6 hb7.size
  have oP_w7 := hidP (OwnG.later oP_w6.out hb7)
  have oB_w7 := hidP (OwnG.later oB_w6.out hb7)
  have acc_w7 := hidP (acc_w6.out.trans (hb7.mono acc_w6.out.size))
  clear pbF_w6 pb0_w6 pb1_w6 pbL_w6 at0_w6 at1_w6 at2_w6 at3_w6 at4_w6 atL_w6 rsF_w6 rs0_w6 rs1_w6 rsL_w6 oP_w6 oB_w6 acc_w6 hb7
  go_wp2_with fail
  refine bodyPost_ret (v := .tuple #[.agg #[.slice a np c, .slice b nb d], .int .i64 1]) (by simp [results, Try.results18, go_sem, rs0_w7, rs1_w7]) rfl ⟨_, _, _, _, rfl, (OwnG.set2 oP_w7.out kL9).mono (Nat.le_of_lt UL9), (OwnG.set2 oB_w7.out kL9).mono (Nat.le_of_lt UL9), HNE.out, below_set2 acc_w7.out (by omega)⟩

set_option maxRecDepth 10000 in
set_option maxHeartbeats 4000000 in
theorem iAdd_c (pq : Pl) (g h : Nat) (np nb : Nat) (ps : List Pl) (bs : List Bk) (w : World) (hnp : np = ps.length) (hnb : nb = bs.length) (hP : RowG KPl w (some ⟨g, 0, none⟩) ps) (hK : RowG KBk w (some ⟨h, 0, none⟩) bs) (hl : np ≤ 1048576) (hl' : nb ≤ 1048576) (hst : ∀ q ∈ bs, q.t.size ≤ 9223372036854775807) (hr : planB ps bs = true) (hk : okPl pq = true) (h20 : np = 20) :
    Calls Try.prog 18 #[.agg #[.slice (some ⟨g, 0, none⟩) np np, .slice (some ⟨h, 0, none⟩) nb nb], .agg #[.bool pq.p.s, .int .i64 pq.p.H.toInt, .int .i64 pq.p.L.toInt, .int .i64 pq.p.b, .int .i64 pq.n]] w fun e w' => ∃ a c b d, e = .returned (.tuple #[.agg #[.slice a np c, .slice b nb d], .int .i64 (2)]) ∧ OwnG KPl 48 w' w.heap.size (.slice a np c) (ps) ∧ OwnG KBk 56 w' w.heap.size (.slice b nb d) (bs) ∧ (∀ k, (Value.slice a np c).ownBlock = some k → (Value.slice b nb d).ownBlock ≠ some k) ∧ Below w.heap.size w w' := by
  have HOw := hidP (fun W h' => ownPlan_any (some ⟨g, 0, none⟩) np np (some ⟨h, 0, none⟩) nb nb ps bs W hnp hnb (hP.later h') (hK.later h') hl hl')
  have HPO := hidP (fun W a c b d e1 e2 => iPlanOk_any a np c b nb d ps bs W hnp hnb e1 e2 (by omega) (by omega) hst)
  have HPk := hidP (fun W => iPoolOk_any pq W)
  have HCt := hidP (fun W cb a c e1 hf => cont_over (fun x => ovP x.p pq.p) cb a np c ps W hnp e1 (by omega) hf)
  have HN := hidP (And.intro hnp hnb)
  clear hP hK hnp hnb hst
  rw [hr] at HPO
  rw [hk] at HPk
  have g20 : decide ((np : Int) = 20) = true := decide_eq_true (by omega)
  have g20' : ((np : Int) == 20) = true := beq_iff_eq.2 (by omega)
  have H20 := hidP h20
  clear h20
  go_enter Try.func18, Try.ntmps18
  go_wp2_with fail
  have uF := frz2 w 32 (.slice (some ⟨g, 0, none⟩) np np) (.slice (some ⟨h, 0, none⟩) nb nb)
  obtain ⟨u0, u1⟩ := box2 (u := .slice (some ⟨g, 0, none⟩) np np) (v := .slice (some ⟨h, 0, none⟩) nb nb) w 32
  have uB := alloc_below w (.cells #[.slice (some ⟨g, 0, none⟩) np np, .slice (some ⟨h, 0, none⟩) nb nb] 32)
  have uL := alloc_lt w (.cells #[.slice (some ⟨g, 0, none⟩) np np, .slice (some ⟨h, 0, none⟩) nb nb] 32)
  have uS : (w.alloc (.cells #[.slice (some ⟨g, 0, none⟩) np np, .slice (some ⟨h, 0, none⟩) nb nb] 32)).heap.size = w.heap.size + 1 := by simp
  generalize w.alloc (.cells #[.slice (some ⟨g, 0, none⟩) np np, .slice (some ⟨h, 0, none⟩) nb nb] 32) = W1 at *
  obtain ⟨y0, y1, y2, y3, y4⟩ := boxPl (q := pq) W1 48
  have yB := alloc_below W1 (.cells #[.bool pq.p.s, .int .i64 pq.p.H.toInt, .int .i64 pq.p.L.toInt, .int .i64 pq.p.b, .int .i64 pq.n] 48)
  have yL := alloc_lt W1 (.cells #[.bool pq.p.s, .int .i64 pq.p.H.toInt, .int .i64 pq.p.L.toInt, .int .i64 pq.p.b, .int .i64 pq.n] 48)
  have yS : (W1.alloc (.cells #[.bool pq.p.s, .int .i64 pq.p.H.toInt, .int .i64 pq.p.L.toInt, .int .i64 pq.p.b, .int .i64 pq.n] 48)).heap.size = W1.heap.size + 1 := by simp
  generalize W1.alloc (.cells #[.bool pq.p.s, .int .i64 pq.p.H.toInt, .int .i64 pq.p.L.toInt, .int .i64 pq.p.b, .int .i64 pq.n] 48) = W2 at *
  rw [uS] at y0 y1 y2 y3 y4 yL yS
  have kF := frz2 W2 32 (.slice none 0 0) (.slice none 0 0)
  obtain ⟨k0, k1⟩ := box2 (u := .slice none 0 0) (v := .slice none 0 0) W2 32
  have kB := alloc_below W2 (.cells #[.slice none 0 0, .slice none 0 0] 32)
  have kL := alloc_lt W2 (.cells #[.slice none 0 0, .slice none 0 0] 32)
  have kS : (W2.alloc (.cells #[.slice none 0 0, .slice none 0 0] 32)).heap.size = W2.heap.size + 1 := by simp
  generalize W2.alloc (.cells #[.slice none 0 0, .slice none 0 0] 32) = W3 at *
  rw [yS] at k0 k1 kL kS
  rw [yS] at kF
  have l0 : w.heap.size < W2.heap.size := by omega
  have l1 : w.heap.size + 1 < W2.heap.size := by omega
  have U0 := (kB.cell l0).trans ((yB.cell uL).trans u0)
  have U1 := (kB.cell l0).trans ((yB.cell uL).trans u1)
  have UF : ∀ o, W3.frozen? ⟨w.heap.size, o, none⟩ = false := fun o => (kB.frozen l0).trans ((yB.frozen uL).trans (uF o))
  have Y0 := (kB.cell l1).trans y0
  have Y1 := (kB.cell l1).trans y1
  have Y2 := (kB.cell l1).trans y2
  have Y3 := (kB.cell l1).trans y3
  have Y4 := (kB.cell l1).trans y4
  have acc0 := hidP ((uB.trans (yB.mono uB.size)).trans (kB.mono (Nat.le_trans uB.size yB.size)))
  have UL : w.heap.size < W3.heap.size := by omega
  have YL : w.heap.size + 1 < W3.heap.size := by omega
  have kL3 : w.heap.size + 1 + 1 < W3.heap.size := by omega
  have UL9 := UL
  have kL9 := kL3
  clear uB yB kB uS yS kS u0 u1 y0 y1 y2 y3 y4 uL yL kL uF l0 l1
  refine (HOw.out _ acc0.out).mono ?_
  rintro e w4 ⟨a, c, b, d, rfl, op, ob, hne, hb4⟩
  have pb0_w4 := (hb4.cell UL).trans U0
  have pb1_w4 := (hb4.cell UL).trans U1
  have pbF_w4 : ∀ o, w4.frozen? ⟨w.heap.size, o, none⟩ = false := fun o => (hb4.frozen UL).trans (UF o)
  have pbL_w4 : w.heap.size < w4.heap.size := Nat.lt_of_lt_of_le UL hb4.size
  have at0_w4 := (hb4.cell YL).trans Y0
  have at1_w4 := (hb4.cell YL).trans Y1
  have at2_w4 := (hb4.cell YL).trans Y2
  have at3_w4 := (hb4.cell YL).trans Y3
  have at4_w4 := (hb4.cell YL).trans Y4
  have atL_w4 : w.heap.size + 1 < w4.heap.size := Nat.lt_of_lt_of_le YL hb4.size
  have rs0_w4 := (hb4.cell kL3).trans k0
  have rs1_w4 := (hb4.cell kL3).trans k1
  have rsF_w4 : ∀ o, w4.frozen? ⟨w.heap.size + 1 + 1, o, none⟩ = false := fun o => (hb4.frozen kL3).trans (kF o)
  have rsL_w4 : w.heap.size + 1 + 1 < w4.heap.size := Nat.lt_of_lt_of_le kL3 hb4.size
  have acc_w4 := hidP (acc0.out.trans (hb4.mono acc0.out.size))
  have oP_w4 := hidP op
  have oB_w4 := hidP ob
  have HNE := hidP hne
  clear UF U0 U1 UL Y0 Y1 Y2 Y3 Y4 YL kF k0 k1 kL3 acc0 hb4 op ob hne
  go_wp2_with fail
  have p0 : ((w4.setCell ⟨w.heap.size, 0, none⟩ (.slice a np c)).setCell ⟨w.heap.size, 1, none⟩ (.slice b nb d)).cell? ⟨w.heap.size, 0, none⟩ = some (.slice a np c) := by simp [go_sem, pb0_w4]
  have p1 : ((w4.setCell ⟨w.heap.size, 0, none⟩ (.slice a np c)).setCell ⟨w.heap.size, 1, none⟩ (.slice b nb d)).cell? ⟨w.heap.size, 1, none⟩ = some (.slice b nb d) := by simp [go_sem, pb1_w4]
  have pF : ∀ o, ((w4.setCell ⟨w.heap.size, 0, none⟩ (.slice a np c)).setCell ⟨w.heap.size, 1, none⟩ (.slice b nb d)).frozen? ⟨w.heap.size, o, none⟩ = false := fun o => by simp [go_sem, pbF_w4 o]
  have q0 : ((w4.setCell ⟨w.heap.size, 0, none⟩ (.slice a np c)).setCell ⟨w.heap.size, 1, none⟩ (.slice b nb d)).cell? ⟨w.heap.size + 1, 0, none⟩ = _ := cell_set2 at0_w4 (by omega)
  have q1 : ((w4.setCell ⟨w.heap.size, 0, none⟩ (.slice a np c)).setCell ⟨w.heap.size, 1, none⟩ (.slice b nb d)).cell? ⟨w.heap.size + 1, 1, none⟩ = _ := cell_set2 at1_w4 (by omega)
  have q2 : ((w4.setCell ⟨w.heap.size, 0, none⟩ (.slice a np c)).setCell ⟨w.heap.size, 1, none⟩ (.slice b nb d)).cell? ⟨w.heap.size + 1, 2, none⟩ = _ := cell_set2 at2_w4 (by omega)
  have q3 : ((w4.setCell ⟨w.heap.size, 0, none⟩ (.slice a np c)).setCell ⟨w.heap.size, 1, none⟩ (.slice b nb d)).cell? ⟨w.heap.size + 1, 3, none⟩ = _ := cell_set2 at3_w4 (by omega)
  have q4 : ((w4.setCell ⟨w.heap.size, 0, none⟩ (.slice a np c)).setCell ⟨w.heap.size, 1, none⟩ (.slice b nb d)).cell? ⟨w.heap.size + 1, 4, none⟩ = _ := cell_set2 at4_w4 (by omega)
  have r0 : ((w4.setCell ⟨w.heap.size, 0, none⟩ (.slice a np c)).setCell ⟨w.heap.size, 1, none⟩ (.slice b nb d)).cell? ⟨w.heap.size + 1 + 1, 0, none⟩ = _ := cell_set2 rs0_w4 (by omega)
  have r1 : ((w4.setCell ⟨w.heap.size, 0, none⟩ (.slice a np c)).setCell ⟨w.heap.size, 1, none⟩ (.slice b nb d)).cell? ⟨w.heap.size + 1 + 1, 1, none⟩ = _ := cell_set2 rs1_w4 (by omega)
  have rF : ∀ o, ((w4.setCell ⟨w.heap.size, 0, none⟩ (.slice a np c)).setCell ⟨w.heap.size, 1, none⟩ (.slice b nb d)).frozen? ⟨w.heap.size + 1 + 1, o, none⟩ = false := fun o => frz_set2 (rsF_w4 o) (by omega)
  have oP5 : Hid (OwnG KPl 48 ((w4.setCell ⟨w.heap.size, 0, none⟩ (.slice a np c)).setCell ⟨w.heap.size, 1, none⟩ (.slice b nb d)) W3.heap.size (.slice a np c) ps) := hidP (OwnG.set2 oP_w4.out UL9)
  have oB5 : Hid (OwnG KBk 56 ((w4.setCell ⟨w.heap.size, 0, none⟩ (.slice a np c)).setCell ⟨w.heap.size, 1, none⟩ (.slice b nb d)) W3.heap.size (.slice b nb d) bs) := hidP (OwnG.set2 oB_w4.out UL9)
  have acc5 : Hid (Below w.heap.size w ((w4.setCell ⟨w.heap.size, 0, none⟩ (.slice a np c)).setCell ⟨w.heap.size, 1, none⟩ (.slice b nb d))) := hidP (below_set2 acc_w4.out (Nat.le_refl _))
  have sL5 : ((w4.setCell ⟨w.heap.size, 0, none⟩ (.slice a np c)).setCell ⟨w.heap.size, 1, none⟩ (.slice b nb d)).heap.size = w4.heap.size := by simp
  generalize ((w4.setCell ⟨w.heap.size, 0, none⟩ (.slice a np c)).setCell ⟨w.heap.size, 1, none⟩ (.slice b nb d)) = W5 at *
  have pL5 : w.heap.size < W5.heap.size := by have := pbL_w4; omega
  have qL5 : w.heap.size + 1 < W5.heap.size := by have := atL_w4; omega
  have rL5 : w.heap.size + 1 + 1 < W5.heap.size := by have := rsL_w4; omega
  clear pb0_w4 pb1_w4 pbL_w4 at0_w4 at1_w4 at2_w4 at3_w4 at4_w4 atL_w4 rs0_w4 rs1_w4 rsL_w4 pbF_w4 rsF_w4 oP_w4 oB_w4 acc_w4 sL5
  refine (HPO.out _ a c b d oP5.out.row oB5.out.row).mono ?_
  rintro e w6 ⟨rfl, hb6⟩
  have pb0_w6 := (hb6.cell pL5).trans p0
  have pb1_w6 := (hb6.cell pL5).trans p1
  have pbF_w6 : ∀ o, w6.frozen? ⟨w.heap.size, o, none⟩ = false := fun o => (hb6.frozen pL5).trans (pF o)
  have pbL_w6 : w.heap.size < w6.heap.size := Nat.lt_of_lt_of_le pL5 hb6.size
  have at0_w6 := (hb6.cell qL5).trans q0
  have at1_w6 := (hb6.cell qL5).trans q1
  have at2_w6 := (hb6.cell qL5).trans q2
  have at3_w6 := (hb6.cell qL5).trans q3
  have at4_w6 := (hb6.cell qL5).trans q4
  have atL_w6 : w.heap.size + 1 < w6.heap.size := Nat.lt_of_lt_of_le qL5 hb6.size
  have rs0_w6 := (hb6.cell rL5).trans r0
  have rs1_w6 := (hb6.cell rL5).trans r1
  have rsF_w6 : ∀ o, w6.frozen? ⟨w.heap.size + 1 + 1, o, none⟩ = false := fun o => (hb6.frozen rL5).trans (rF o)
  have rsL_w6 : w.heap.size + 1 + 1 < w6.heap.size := Nat.lt_of_lt_of_le rL5 hb6.size
  have oP_w6 := hidP (OwnG.later oP5.out hb6)
  have oB_w6 := hidP (OwnG.later oB5.out hb6)
  have acc_w6 := hidP (acc5.out.trans (hb6.mono acc5.out.size))
  clear pF p0 p1 pL5 q0 q1 q2 q3 q4 qL5 rF r0 r1 rL5 oP5 oB5 acc5 hb6
  go_wp2_with fail
  refine (HPk.out _).mono ?_
  rintro e w7 ⟨rfl, hb7⟩
  have pb0_w7 := (hb7.cell pbL_w6).trans pb0_w6
  have pb1_w7 := (hb7.cell pbL_w6).trans pb1_w6
  have pbF_w7 : ∀ o, w7.frozen? ⟨w.heap.size, o, none⟩ = false := fun o => (hb7.frozen pbL_w6).trans (pbF_w6 o)
  have pbL_w7 : w.heap.size < w7.heap.size := Nat.lt_of_lt_of_le pbL_w6 hb7.size
  have at0_w7 := (hb7.cell atL_w6).trans at0_w6
  have at1_w7 := (hb7.cell atL_w6).trans at1_w6
  have at2_w7 := (hb7.cell atL_w6).trans at2_w6
  have at3_w7 := (hb7.cell atL_w6).trans at3_w6
  have at4_w7 := (hb7.cell atL_w6).trans at4_w6
  have atL_w7 : w.heap.size + 1 < w7.heap.size := Nat.lt_of_lt_of_le atL_w6 hb7.size
  have rs0_w7 := (hb7.cell rsL_w6).trans rs0_w6
  have rs1_w7 := (hb7.cell rsL_w6).trans rs1_w6
  have rsF_w7 : ∀ o, w7.frozen? ⟨w.heap.size + 1 + 1, o, none⟩ = false := fun o => (hb7.frozen rsL_w6).trans (rsF_w6 o)
  have rsL_w7 : w.heap.size + 1 + 1 < w7.heap.size := Nat.lt_of_lt_of_le rsL_w6 hb7.size
  have oP_w7 := hidP (OwnG.later oP_w6.out hb7)
  have oB_w7 := hidP (OwnG.later oB_w6.out hb7)
  have acc_w7 := hidP (acc_w6.out.trans (hb7.mono acc_w6.out.size))
  clear pbF_w6 pb0_w6 pb1_w6 pbL_w6 at0_w6 at1_w6 at2_w6 at3_w6 at4_w6 atL_w6 rsF_w6 rs0_w6 rs1_w6 rsL_w6 oP_w6 oB_w6 acc_w6 hb7
  go_wp2_with fail
  refine bodyPost_ret (v := .tuple #[.agg #[.slice a np c, .slice b nb d], .int .i64 2]) (by simp [results, Try.results18, go_sem, rs0_w7, rs1_w7]) rfl ⟨_, _, _, _, rfl, (OwnG.set2 oP_w7.out kL9).mono (Nat.le_of_lt UL9), (OwnG.set2 oB_w7.out kL9).mono (Nat.le_of_lt UL9), HNE.out, below_set2 acc_w7.out (by omega)⟩

set_option maxRecDepth 10000 in
set_option maxHeartbeats 4000000 in
theorem iAdd_d (pq : Pl) (g h : Nat) (np nb : Nat) (ps : List Pl) (bs : List Bk) (w : World) (hnp : np = ps.length) (hnb : nb = bs.length) (hP : RowG KPl w (some ⟨g, 0, none⟩) ps) (hK : RowG KBk w (some ⟨h, 0, none⟩) bs) (hl : np ≤ 1048576) (hl' : nb ≤ 1048576) (hst : ∀ q ∈ bs, q.t.size ≤ 9223372036854775807) (hr : planB ps bs = true) (hk : okPl pq = true) (h20 : np < 20) (ho : ps.any (fun x => ovP x.p pq.p) = true) :
    Calls Try.prog 18 #[.agg #[.slice (some ⟨g, 0, none⟩) np np, .slice (some ⟨h, 0, none⟩) nb nb], .agg #[.bool pq.p.s, .int .i64 pq.p.H.toInt, .int .i64 pq.p.L.toInt, .int .i64 pq.p.b, .int .i64 pq.n]] w fun e w' => ∃ a c b d, e = .returned (.tuple #[.agg #[.slice a np c, .slice b nb d], .int .i64 (3)]) ∧ OwnG KPl 48 w' w.heap.size (.slice a np c) (ps) ∧ OwnG KBk 56 w' w.heap.size (.slice b nb d) (bs) ∧ (∀ k, (Value.slice a np c).ownBlock = some k → (Value.slice b nb d).ownBlock ≠ some k) ∧ Below w.heap.size w w' := by
  have HOw := hidP (fun W h' => ownPlan_any (some ⟨g, 0, none⟩) np np (some ⟨h, 0, none⟩) nb nb ps bs W hnp hnb (hP.later h') (hK.later h') hl hl')
  have HPO := hidP (fun W a c b d e1 e2 => iPlanOk_any a np c b nb d ps bs W hnp hnb e1 e2 (by omega) (by omega) hst)
  have HPk := hidP (fun W => iPoolOk_any pq W)
  have HCt := hidP (fun W cb a c e1 hf => cont_over (fun x => ovP x.p pq.p) cb a np c ps W hnp e1 (by omega) hf)
  have HN := hidP (And.intro hnp hnb)
  clear hP hK hnp hnb hst
  rw [hr] at HPO
  rw [hk] at HPk
  rw [ho] at HCt
  have g20 : decide ((np : Int) = 20) = false := decide_eq_false (by omega)
  go_enter Try.func18, Try.ntmps18
  go_wp2_with fail
  have uF := frz2 w 32 (.slice (some ⟨g, 0, none⟩) np np) (.slice (some ⟨h, 0, none⟩) nb nb)
  obtain ⟨u0, u1⟩ := box2 (u := .slice (some ⟨g, 0, none⟩) np np) (v := .slice (some ⟨h, 0, none⟩) nb nb) w 32
  have uB := alloc_below w (.cells #[.slice (some ⟨g, 0, none⟩) np np, .slice (some ⟨h, 0, none⟩) nb nb] 32)
  have uL := alloc_lt w (.cells #[.slice (some ⟨g, 0, none⟩) np np, .slice (some ⟨h, 0, none⟩) nb nb] 32)
  have uS : (w.alloc (.cells #[.slice (some ⟨g, 0, none⟩) np np, .slice (some ⟨h, 0, none⟩) nb nb] 32)).heap.size = w.heap.size + 1 := by simp
  generalize w.alloc (.cells #[.slice (some ⟨g, 0, none⟩) np np, .slice (some ⟨h, 0, none⟩) nb nb] 32) = W1 at *
  obtain ⟨y0, y1, y2, y3, y4⟩ := boxPl (q := pq) W1 48
  have yB := alloc_below W1 (.cells #[.bool pq.p.s, .int .i64 pq.p.H.toInt, .int .i64 pq.p.L.toInt, .int .i64 pq.p.b, .int .i64 pq.n] 48)
  have yL := alloc_lt W1 (.cells #[.bool pq.p.s, .int .i64 pq.p.H.toInt, .int .i64 pq.p.L.toInt, .int .i64 pq.p.b, .int .i64 pq.n] 48)
  have yS : (W1.alloc (.cells #[.bool pq.p.s, .int .i64 pq.p.H.toInt, .int .i64 pq.p.L.toInt, .int .i64 pq.p.b, .int .i64 pq.n] 48)).heap.size = W1.heap.size + 1 := by simp
  generalize W1.alloc (.cells #[.bool pq.p.s, .int .i64 pq.p.H.toInt, .int .i64 pq.p.L.toInt, .int .i64 pq.p.b, .int .i64 pq.n] 48) = W2 at *
  rw [uS] at y0 y1 y2 y3 y4 yL yS
  have kF := frz2 W2 32 (.slice none 0 0) (.slice none 0 0)
  obtain ⟨k0, k1⟩ := box2 (u := .slice none 0 0) (v := .slice none 0 0) W2 32
  have kB := alloc_below W2 (.cells #[.slice none 0 0, .slice none 0 0] 32)
  have kL := alloc_lt W2 (.cells #[.slice none 0 0, .slice none 0 0] 32)
  have kS : (W2.alloc (.cells #[.slice none 0 0, .slice none 0 0] 32)).heap.size = W2.heap.size + 1 := by simp
  generalize W2.alloc (.cells #[.slice none 0 0, .slice none 0 0] 32) = W3 at *
  rw [yS] at k0 k1 kL kS
  rw [yS] at kF
  have l0 : w.heap.size < W2.heap.size := by omega
  have l1 : w.heap.size + 1 < W2.heap.size := by omega
  have U0 := (kB.cell l0).trans ((yB.cell uL).trans u0)
  have U1 := (kB.cell l0).trans ((yB.cell uL).trans u1)
  have UF : ∀ o, W3.frozen? ⟨w.heap.size, o, none⟩ = false := fun o => (kB.frozen l0).trans ((yB.frozen uL).trans (uF o))
  have Y0 := (kB.cell l1).trans y0
  have Y1 := (kB.cell l1).trans y1
  have Y2 := (kB.cell l1).trans y2
  have Y3 := (kB.cell l1).trans y3
  have Y4 := (kB.cell l1).trans y4
  have acc0 := hidP ((uB.trans (yB.mono uB.size)).trans (kB.mono (Nat.le_trans uB.size yB.size)))
  have UL : w.heap.size < W3.heap.size := by omega
  have YL : w.heap.size + 1 < W3.heap.size := by omega
  have kL3 : w.heap.size + 1 + 1 < W3.heap.size := by omega
  have UL9 := UL
  have kL9 := kL3
  clear uB yB kB uS yS kS u0 u1 y0 y1 y2 y3 y4 uL yL kL uF l0 l1
  refine (HOw.out _ acc0.out).mono ?_
  rintro e w4 ⟨a, c, b, d, rfl, op, ob, hne, hb4⟩
  have pb0_w4 := (hb4.cell UL).trans U0
  have pb1_w4 := (hb4.cell UL).trans U1
  have pbF_w4 : ∀ o, w4.frozen? ⟨w.heap.size, o, none⟩ = false := fun o => (hb4.frozen UL).trans (UF o)
  have pbL_w4 : w.heap.size < w4.heap.size := Nat.lt_of_lt_of_le UL hb4.size
  have at0_w4 := (hb4.cell YL).trans Y0
  have at1_w4 := (hb4.cell YL).trans Y1
  have at2_w4 := (hb4.cell YL).trans Y2
  have at3_w4 := (hb4.cell YL).trans Y3
  have at4_w4 := (hb4.cell YL).trans Y4
  have atL_w4 : w.heap.size + 1 < w4.heap.size := Nat.lt_of_lt_of_le YL hb4.size
  have rs0_w4 := (hb4.cell kL3).trans k0
  have rs1_w4 := (hb4.cell kL3).trans k1
  have rsF_w4 : ∀ o, w4.frozen? ⟨w.heap.size + 1 + 1, o, none⟩ = false := fun o => (hb4.frozen kL3).trans (kF o)
  have rsL_w4 : w.heap.size + 1 + 1 < w4.heap.size := Nat.lt_of_lt_of_le kL3 hb4.size
  have acc_w4 := hidP (acc0.out.trans (hb4.mono acc0.out.size))
  have oP_w4 := hidP op
  have oB_w4 := hidP ob
  have HNE := hidP hne
  clear UF U0 U1 UL Y0 Y1 Y2 Y3 Y4 YL kF k0 k1 kL3 acc0 hb4 op ob hne
  go_wp2_with fail
  have p0 : ((w4.setCell ⟨w.heap.size, 0, none⟩ (.slice a np c)).setCell ⟨w.heap.size, 1, none⟩ (.slice b nb d)).cell? ⟨w.heap.size, 0, none⟩ = some (.slice a np c) := by simp [go_sem, pb0_w4]
  have p1 : ((w4.setCell ⟨w.heap.size, 0, none⟩ (.slice a np c)).setCell ⟨w.heap.size, 1, none⟩ (.slice b nb d)).cell? ⟨w.heap.size, 1, none⟩ = some (.slice b nb d) := by simp [go_sem, pb1_w4]
  have pF : ∀ o, ((w4.setCell ⟨w.heap.size, 0, none⟩ (.slice a np c)).setCell ⟨w.heap.size, 1, none⟩ (.slice b nb d)).frozen? ⟨w.heap.size, o, none⟩ = false := fun o => by simp [go_sem, pbF_w4 o]
  have q0 : ((w4.setCell ⟨w.heap.size, 0, none⟩ (.slice a np c)).setCell ⟨w.heap.size, 1, none⟩ (.slice b nb d)).cell? ⟨w.heap.size + 1, 0, none⟩ = _ := cell_set2 at0_w4 (by omega)
  have q1 : ((w4.setCell ⟨w.heap.size, 0, none⟩ (.slice a np c)).setCell ⟨w.heap.size, 1, none⟩ (.slice b nb d)).cell? ⟨w.heap.size + 1, 1, none⟩ = _ := cell_set2 at1_w4 (by omega)
  have q2 : ((w4.setCell ⟨w.heap.size, 0, none⟩ (.slice a np c)).setCell ⟨w.heap.size, 1, none⟩ (.slice b nb d)).cell? ⟨w.heap.size + 1, 2, none⟩ = _ := cell_set2 at2_w4 (by omega)
  have q3 : ((w4.setCell ⟨w.heap.size, 0, none⟩ (.slice a np c)).setCell ⟨w.heap.size, 1, none⟩ (.slice b nb d)).cell? ⟨w.heap.size + 1, 3, none⟩ = _ := cell_set2 at3_w4 (by omega)
  have q4 : ((w4.setCell ⟨w.heap.size, 0, none⟩ (.slice a np c)).setCell ⟨w.heap.size, 1, none⟩ (.slice b nb d)).cell? ⟨w.heap.size + 1, 4, none⟩ = _ := cell_set2 at4_w4 (by omega)
  have r0 : ((w4.setCell ⟨w.heap.size, 0, none⟩ (.slice a np c)).setCell ⟨w.heap.size, 1, none⟩ (.slice b nb d)).cell? ⟨w.heap.size + 1 + 1, 0, none⟩ = _ := cell_set2 rs0_w4 (by omega)
  have r1 : ((w4.setCell ⟨w.heap.size, 0, none⟩ (.slice a np c)).setCell ⟨w.heap.size, 1, none⟩ (.slice b nb d)).cell? ⟨w.heap.size + 1 + 1, 1, none⟩ = _ := cell_set2 rs1_w4 (by omega)
  have rF : ∀ o, ((w4.setCell ⟨w.heap.size, 0, none⟩ (.slice a np c)).setCell ⟨w.heap.size, 1, none⟩ (.slice b nb d)).frozen? ⟨w.heap.size + 1 + 1, o, none⟩ = false := fun o => frz_set2 (rsF_w4 o) (by omega)
  have oP5 : Hid (OwnG KPl 48 ((w4.setCell ⟨w.heap.size, 0, none⟩ (.slice a np c)).setCell ⟨w.heap.size, 1, none⟩ (.slice b nb d)) W3.heap.size (.slice a np c) ps) := hidP (OwnG.set2 oP_w4.out UL9)
  have oB5 : Hid (OwnG KBk 56 ((w4.setCell ⟨w.heap.size, 0, none⟩ (.slice a np c)).setCell ⟨w.heap.size, 1, none⟩ (.slice b nb d)) W3.heap.size (.slice b nb d) bs) := hidP (OwnG.set2 oB_w4.out UL9)
  have acc5 : Hid (Below w.heap.size w ((w4.setCell ⟨w.heap.size, 0, none⟩ (.slice a np c)).setCell ⟨w.heap.size, 1, none⟩ (.slice b nb d))) := hidP (below_set2 acc_w4.out (Nat.le_refl _))
  have sL5 : ((w4.setCell ⟨w.heap.size, 0, none⟩ (.slice a np c)).setCell ⟨w.heap.size, 1, none⟩ (.slice b nb d)).heap.size = w4.heap.size := by simp
  generalize ((w4.setCell ⟨w.heap.size, 0, none⟩ (.slice a np c)).setCell ⟨w.heap.size, 1, none⟩ (.slice b nb d)) = W5 at *
  have pL5 : w.heap.size < W5.heap.size := by have := pbL_w4; omega
  have qL5 : w.heap.size + 1 < W5.heap.size := by have := atL_w4; omega
  have rL5 : w.heap.size + 1 + 1 < W5.heap.size := by have := rsL_w4; omega
  clear pb0_w4 pb1_w4 pbL_w4 at0_w4 at1_w4 at2_w4 at3_w4 at4_w4 atL_w4 rs0_w4 rs1_w4 rsL_w4 pbF_w4 rsF_w4 oP_w4 oB_w4 acc_w4 sL5
  refine (HPO.out _ a c b d oP5.out.row oB5.out.row).mono ?_
  rintro e w6 ⟨rfl, hb6⟩
  have pb0_w6 := (hb6.cell pL5).trans p0
  have pb1_w6 := (hb6.cell pL5).trans p1
  have pbF_w6 : ∀ o, w6.frozen? ⟨w.heap.size, o, none⟩ = false := fun o => (hb6.frozen pL5).trans (pF o)
  have pbL_w6 : w.heap.size < w6.heap.size := Nat.lt_of_lt_of_le pL5 hb6.size
  have at0_w6 := (hb6.cell qL5).trans q0
  have at1_w6 := (hb6.cell qL5).trans q1
  have at2_w6 := (hb6.cell qL5).trans q2
  have at3_w6 := (hb6.cell qL5).trans q3
  have at4_w6 := (hb6.cell qL5).trans q4
  have atL_w6 : w.heap.size + 1 < w6.heap.size := Nat.lt_of_lt_of_le qL5 hb6.size
  have rs0_w6 := (hb6.cell rL5).trans r0
  have rs1_w6 := (hb6.cell rL5).trans r1
  have rsF_w6 : ∀ o, w6.frozen? ⟨w.heap.size + 1 + 1, o, none⟩ = false := fun o => (hb6.frozen rL5).trans (rF o)
  have rsL_w6 : w.heap.size + 1 + 1 < w6.heap.size := Nat.lt_of_lt_of_le rL5 hb6.size
  have oP_w6 := hidP (OwnG.later oP5.out hb6)
  have oB_w6 := hidP (OwnG.later oB5.out hb6)
  have acc_w6 := hidP (acc5.out.trans (hb6.mono acc5.out.size))
  clear pF p0 p1 pL5 q0 q1 q2 q3 q4 qL5 rF r0 r1 rL5 oP5 oB5 acc5 hb6
  go_wp2_with fail
  refine (HPk.out _).mono ?_
  rintro e w7 ⟨rfl, hb7⟩
  have pb0_w7 := (hb7.cell pbL_w6).trans pb0_w6
  have pb1_w7 := (hb7.cell pbL_w6).trans pb1_w6
  have pbF_w7 : ∀ o, w7.frozen? ⟨w.heap.size, o, none⟩ = false := fun o => (hb7.frozen pbL_w6).trans (pbF_w6 o)
  have pbL_w7 : w.heap.size < w7.heap.size := Nat.lt_of_lt_of_le pbL_w6 hb7.size
  have at0_w7 := (hb7.cell atL_w6).trans at0_w6
  have at1_w7 := (hb7.cell atL_w6).trans at1_w6
  have at2_w7 := (hb7.cell atL_w6).trans at2_w6
  have at3_w7 := (hb7.cell atL_w6).trans at3_w6
  have at4_w7 := (hb7.cell atL_w6).trans at4_w6
  have atL_w7 : w.heap.size + 1 < w7.heap.size := Nat.lt_of_lt_of_le atL_w6 hb7.size
  have rs0_w7 := (hb7.cell rsL_w6).trans rs0_w6
  have rs1_w7 := (hb7.cell rsL_w6).trans rs1_w6
  have rsF_w7 : ∀ o, w7.frozen? ⟨w.heap.size + 1 + 1, o, none⟩ = false := fun o => (hb7.frozen rsL_w6).trans (rsF_w6 o)
  have rsL_w7 : w.heap.size + 1 + 1 < w7.heap.size := Nat.lt_of_lt_of_le rsL_w6 hb7.size
  have oP_w7 := hidP (OwnG.later oP_w6.out hb7)
  have oB_w7 := hidP (OwnG.later oB_w6.out hb7)
  have acc_w7 := hidP (acc_w6.out.trans (hb7.mono acc_w6.out.size))
  clear pbF_w6 pb0_w6 pb1_w6 pbL_w6 at0_w6 at1_w6 at2_w6 at3_w6 at4_w6 atL_w6 rsF_w6 rs0_w6 rs1_w6 rsL_w6 oP_w6 oB_w6 acc_w6 hb7
  go_wp2_with fail
  refine (HCt.out _ (w.heap.size + 1) a c oP_w7.out.row (fun x W hW => addOver_any pq x (w.heap.size + 1) W (Nat.lt_of_lt_of_le atL_w7 hW.size) ((hW.cell atL_w7).trans at0_w7) ((hW.cell atL_w7).trans at1_w7) ((hW.cell atL_w7).trans at2_w7) ((hW.cell atL_w7).trans at3_w7))).mono ?_
  rintro e w8 ⟨rfl, hb8⟩
  have pb0_w8 := (hb8.cell pbL_w7).trans pb0_w7
  have pb1_w8 := (hb8.cell pbL_w7).trans pb1_w7
  have pbF_w8 : ∀ o, w8.frozen? ⟨w.heap.size, o, none⟩ = false := fun o => (hb8.frozen pbL_w7).trans (pbF_w7 o)
  have pbL_w8 : w.heap.size < w8.heap.size := Nat.lt_of_lt_of_le pbL_w7 hb8.size
  have at0_w8 := (hb8.cell atL_w7).trans at0_w7
  have at1_w8 := (hb8.cell atL_w7).trans at1_w7
  have at2_w8 := (hb8.cell atL_w7).trans at2_w7
  have at3_w8 := (hb8.cell atL_w7).trans at3_w7
  have at4_w8 := (hb8.cell atL_w7).trans at4_w7
  have atL_w8 : w.heap.size + 1 < w8.heap.size := Nat.lt_of_lt_of_le atL_w7 hb8.size
  have rs0_w8 := (hb8.cell rsL_w7).trans rs0_w7
  have rs1_w8 := (hb8.cell rsL_w7).trans rs1_w7
  have rsF_w8 : ∀ o, w8.frozen? ⟨w.heap.size + 1 + 1, o, none⟩ = false := fun o => (hb8.frozen rsL_w7).trans (rsF_w7 o)
  have rsL_w8 : w.heap.size + 1 + 1 < w8.heap.size := Nat.lt_of_lt_of_le rsL_w7 hb8.size
  have oP_w8 := hidP (OwnG.later oP_w7.out hb8)
  have oB_w8 := hidP (OwnG.later oB_w7.out hb8)
  have acc_w8 := hidP (acc_w7.out.trans (hb8.mono acc_w7.out.size))
  clear pbF_w7 pb0_w7 pb1_w7 pbL_w7 at0_w7 at1_w7 at2_w7 at3_w7 at4_w7 atL_w7 rsF_w7 rs0_w7 rs1_w7 rsL_w7 oP_w7 oB_w7 acc_w7 hb8
  go_wp2_with fail
  refine bodyPost_ret (v := .tuple #[.agg #[.slice a np c, .slice b nb d], .int .i64 3]) (by simp [results, Try.results18, go_sem, rs0_w8, rs1_w8]) rfl ⟨_, _, _, _, rfl, (OwnG.set2 oP_w8.out kL9).mono (Nat.le_of_lt UL9), (OwnG.set2 oB_w8.out kL9).mono (Nat.le_of_lt UL9), HNE.out, below_set2 acc_w8.out (by omega)⟩

end Go.Proofs.Ythbpehpnikknlaa

namespace Go.Proofs.Ythbpehpnikknlaa
open Go.RowKit

set_option maxRecDepth 10000 in
set_option maxHeartbeats 4000000 in
theorem iAdd_e (pq : Pl) (g h : Nat) (np nb : Nat) (ps : List Pl) (bs : List Bk) (w : World) (hnp : np = ps.length) (hnb : nb = bs.length) (hP : RowG KPl w (some ⟨g, 0, none⟩) ps) (hK : RowG KBk w (some ⟨h, 0, none⟩) bs) (hl : np ≤ 1048576) (hl' : nb ≤ 1048576) (hst : ∀ q ∈ bs, q.t.size ≤ 9223372036854775807) (hr : planB ps bs = true) (hk : okPl pq = true) (h20 : np < 20) (ho : ps.any (fun x => ovP x.p pq.p) = false) (hpk : ∀ x ∈ ps ++ [pq], x.p.pk = true) (S : List Pl) (hS : ∀ R : List Pl, R.Perm (ps ++ [pq]) → Srt (fun x y => cmpP x.p y.p) R → R = S) :
    Calls Try.prog 18 #[.agg #[.slice (some ⟨g, 0, none⟩) np np, .slice (some ⟨h, 0, none⟩) nb nb], .agg #[.bool pq.p.s, .int .i64 pq.p.H.toInt, .int .i64 pq.p.L.toInt, .int .i64 pq.p.b, .int .i64 pq.n]] w fun e w' => ∃ a c b d, e = .returned (.tuple #[.agg #[.slice a (np + 1) c, .slice b nb d], .int .i64 (0)]) ∧ OwnG KPl 48 w' w.heap.size (.slice a (np + 1) c) (S) ∧ OwnG KBk 56 w' w.heap.size (.slice b nb d) (bs) ∧ (∀ k, (Value.slice a (np + 1) c).ownBlock = some k → (Value.slice b nb d).ownBlock ≠ some k) ∧ Below w.heap.size w w' := by
  have HOw := hidP (fun W h' => ownPlan_any (some ⟨g, 0, none⟩) np np (some ⟨h, 0, none⟩) nb nb ps bs W hnp hnb (hP.later h') (hK.later h') hl hl')
  have HPO := hidP (fun W a c b d e1 e2 => iPlanOk_any a np c b nb d ps bs W hnp hnb e1 e2 (by omega) (by omega) hst)
  have HPk := hidP (fun W => iPoolOk_any pq W)
  have HCt := hidP (fun W cb a c e1 hf => cont_over (fun x => ovP x.p pq.p) cb a np c ps W hnp e1 (by omega) hf)
  have HSo := hidP (fun W a' c' e1 => sortedBy_any (fun x : Pl => x.p.pk = true) (fun x y => cmpP x.p y.p) ordr_pool cmpr_pool a' (np + 1) c' (ps ++ [pq]) (by rw [List.length_append, hnp]; rfl) (by omega) hpk (by omega) W e1)
  have HSu := hidP hS
  have HN := hidP (And.intro hnp hnb)
  clear hpk hS
  clear hP hK hnp hnb hst
  rw [hr] at HPO
  rw [hk] at HPk
  rw [ho] at HCt
  have g20 : decide ((np : Int) = 20) = false := decide_eq_false (by omega)
  go_enter Try.func18, Try.ntmps18
  go_wp2_with fail
  have uF := frz2 w 32 (.slice (some ⟨g, 0, none⟩) np np) (.slice (some ⟨h, 0, none⟩) nb nb)
  obtain ⟨u0, u1⟩ := box2 (u := .slice (some ⟨g, 0, none⟩) np np) (v := .slice (some ⟨h, 0, none⟩) nb nb) w 32
  have uB := alloc_below w (.cells #[.slice (some ⟨g, 0, none⟩) np np, .slice (some ⟨h, 0, none⟩) nb nb] 32)
  have uL := alloc_lt w (.cells #[.slice (some ⟨g, 0, none⟩) np np, .slice (some ⟨h, 0, none⟩) nb nb] 32)
  have uS : (w.alloc (.cells #[.slice (some ⟨g, 0, none⟩) np np, .slice (some ⟨h, 0, none⟩) nb nb] 32)).heap.size = w.heap.size + 1 := by simp
  generalize w.alloc (.cells #[.slice (some ⟨g, 0, none⟩) np np, .slice (some ⟨h, 0, none⟩) nb nb] 32) = W1 at *
  obtain ⟨y0, y1, y2, y3, y4⟩ := boxPl (q := pq) W1 48
  have yB := alloc_below W1 (.cells #[.bool pq.p.s, .int .i64 pq.p.H.toInt, .int .i64 pq.p.L.toInt, .int .i64 pq.p.b, .int .i64 pq.n] 48)
  have yL := alloc_lt W1 (.cells #[.bool pq.p.s, .int .i64 pq.p.H.toInt, .int .i64 pq.p.L.toInt, .int .i64 pq.p.b, .int .i64 pq.n] 48)
  have yS : (W1.alloc (.cells #[.bool pq.p.s, .int .i64 pq.p.H.toInt, .int .i64 pq.p.L.toInt, .int .i64 pq.p.b, .int .i64 pq.n] 48)).heap.size = W1.heap.size + 1 := by simp
  generalize W1.alloc (.cells #[.bool pq.p.s, .int .i64 pq.p.H.toInt, .int .i64 pq.p.L.toInt, .int .i64 pq.p.b, .int .i64 pq.n] 48) = W2 at *
  rw [uS] at y0 y1 y2 y3 y4 yL yS
  have kF := frz2 W2 32 (.slice none 0 0) (.slice none 0 0)
  obtain ⟨k0, k1⟩ := box2 (u := .slice none 0 0) (v := .slice none 0 0) W2 32
  have kB := alloc_below W2 (.cells #[.slice none 0 0, .slice none 0 0] 32)
  have kL := alloc_lt W2 (.cells #[.slice none 0 0, .slice none 0 0] 32)
  have kS : (W2.alloc (.cells #[.slice none 0 0, .slice none 0 0] 32)).heap.size = W2.heap.size + 1 := by simp
  generalize W2.alloc (.cells #[.slice none 0 0, .slice none 0 0] 32) = W3 at *
  rw [yS] at k0 k1 kL kS
  rw [yS] at kF
  have l0 : w.heap.size < W2.heap.size := by omega
  have l1 : w.heap.size + 1 < W2.heap.size := by omega
  have U0 := (kB.cell l0).trans ((yB.cell uL).trans u0)
  have U1 := (kB.cell l0).trans ((yB.cell uL).trans u1)
  have UF : ∀ o, W3.frozen? ⟨w.heap.size, o, none⟩ = false := fun o => (kB.frozen l0).trans ((yB.frozen uL).trans (uF o))
  have Y0 := (kB.cell l1).trans y0
  have Y1 := (kB.cell l1).trans y1
  have Y2 := (kB.cell l1).trans y2
  have Y3 := (kB.cell l1).trans y3
  have Y4 := (kB.cell l1).trans y4
  have acc0 := hidP ((uB.trans (yB.mono uB.size)).trans (kB.mono (Nat.le_trans uB.size yB.size)))
  have UL : w.heap.size < W3.heap.size := by omega
  have YL : w.heap.size + 1 < W3.heap.size := by omega
  have kL3 : w.heap.size + 1 + 1 < W3.heap.size := by omega
  have UL9 := UL
  have kL9 := kL3
  clear uB yB kB uS yS kS u0 u1 y0 y1 y2 y3 y4 uL yL kL uF l0 l1
  refine (HOw.out _ acc0.out).mono ?_
  rintro e w4 ⟨a, c, b, d, rfl, op, ob, hne, hb4⟩
  have sz4 := hb4.size
  have pb0_w4 := (hb4.cell UL).trans U0
  have pb1_w4 := (hb4.cell UL).trans U1
  have pbF_w4 : ∀ o, w4.frozen? ⟨w.heap.size, o, none⟩ = false := fun o => (hb4.frozen UL).trans (UF o)
  have pbL_w4 : w.heap.size < w4.heap.size := Nat.lt_of_lt_of_le UL hb4.size
  have at0_w4 := (hb4.cell YL).trans Y0
  have at1_w4 := (hb4.cell YL).trans Y1
  have at2_w4 := (hb4.cell YL).trans Y2
  have at3_w4 := (hb4.cell YL).trans Y3
  have at4_w4 := (hb4.cell YL).trans Y4
  have atL_w4 : w.heap.size + 1 < w4.heap.size := Nat.lt_of_lt_of_le YL hb4.size
  have rs0_w4 := (hb4.cell kL3).trans k0
  have rs1_w4 := (hb4.cell kL3).trans k1
  have rsF_w4 : ∀ o, w4.frozen? ⟨w.heap.size + 1 + 1, o, none⟩ = false := fun o => (hb4.frozen kL3).trans (kF o)
  have rsL_w4 : w.heap.size + 1 + 1 < w4.heap.size := Nat.lt_of_lt_of_le kL3 hb4.size
  have acc_w4 := hidP (acc0.out.trans (hb4.mono acc0.out.size))
  have oP_w4 := hidP op
  have oB_w4 := hidP ob
  have HNE := hidP hne
  clear UF U0 U1 UL Y0 Y1 Y2 Y3 Y4 YL kF k0 k1 kL3 acc0 hb4 op ob hne
  go_wp2_with fail
  have p0 : ((w4.setCell ⟨w.heap.size, 0, none⟩ (.slice a np c)).setCell ⟨w.heap.size, 1, none⟩ (.slice b nb d)).cell? ⟨w.heap.size, 0, none⟩ = some (.slice a np c) := by simp [go_sem, pb0_w4]
  have p1 : ((w4.setCell ⟨w.heap.size, 0, none⟩ (.slice a np c)).setCell ⟨w.heap.size, 1, none⟩ (.slice b nb d)).cell? ⟨w.heap.size, 1, none⟩ = some (.slice b nb d) := by simp [go_sem, pb1_w4]
  have pF : ∀ o, ((w4.setCell ⟨w.heap.size, 0, none⟩ (.slice a np c)).setCell ⟨w.heap.size, 1, none⟩ (.slice b nb d)).frozen? ⟨w.heap.size, o, none⟩ = false := fun o => by simp [go_sem, pbF_w4 o]
  have q0 : ((w4.setCell ⟨w.heap.size, 0, none⟩ (.slice a np c)).setCell ⟨w.heap.size, 1, none⟩ (.slice b nb d)).cell? ⟨w.heap.size + 1, 0, none⟩ = _ := cell_set2 at0_w4 (by omega)
  have q1 : ((w4.setCell ⟨w.heap.size, 0, none⟩ (.slice a np c)).setCell ⟨w.heap.size, 1, none⟩ (.slice b nb d)).cell? ⟨w.heap.size + 1, 1, none⟩ = _ := cell_set2 at1_w4 (by omega)
  have q2 : ((w4.setCell ⟨w.heap.size, 0, none⟩ (.slice a np c)).setCell ⟨w.heap.size, 1, none⟩ (.slice b nb d)).cell? ⟨w.heap.size + 1, 2, none⟩ = _ := cell_set2 at2_w4 (by omega)
  have q3 : ((w4.setCell ⟨w.heap.size, 0, none⟩ (.slice a np c)).setCell ⟨w.heap.size, 1, none⟩ (.slice b nb d)).cell? ⟨w.heap.size + 1, 3, none⟩ = _ := cell_set2 at3_w4 (by omega)
  have q4 : ((w4.setCell ⟨w.heap.size, 0, none⟩ (.slice a np c)).setCell ⟨w.heap.size, 1, none⟩ (.slice b nb d)).cell? ⟨w.heap.size + 1, 4, none⟩ = _ := cell_set2 at4_w4 (by omega)
  have r0 : ((w4.setCell ⟨w.heap.size, 0, none⟩ (.slice a np c)).setCell ⟨w.heap.size, 1, none⟩ (.slice b nb d)).cell? ⟨w.heap.size + 1 + 1, 0, none⟩ = _ := cell_set2 rs0_w4 (by omega)
  have r1 : ((w4.setCell ⟨w.heap.size, 0, none⟩ (.slice a np c)).setCell ⟨w.heap.size, 1, none⟩ (.slice b nb d)).cell? ⟨w.heap.size + 1 + 1, 1, none⟩ = _ := cell_set2 rs1_w4 (by omega)
  have rF : ∀ o, ((w4.setCell ⟨w.heap.size, 0, none⟩ (.slice a np c)).setCell ⟨w.heap.size, 1, none⟩ (.slice b nb d)).frozen? ⟨w.heap.size + 1 + 1, o, none⟩ = false := fun o => frz_set2 (rsF_w4 o) (by omega)
  have oP5 : Hid (OwnG KPl 48 ((w4.setCell ⟨w.heap.size, 0, none⟩ (.slice a np c)).setCell ⟨w.heap.size, 1, none⟩ (.slice b nb d)) W3.heap.size (.slice a np c) ps) := hidP (OwnG.set2 oP_w4.out UL9)
  have oB5 : Hid (OwnG KBk 56 ((w4.setCell ⟨w.heap.size, 0, none⟩ (.slice a np c)).setCell ⟨w.heap.size, 1, none⟩ (.slice b nb d)) W3.heap.size (.slice b nb d) bs) := hidP (OwnG.set2 oB_w4.out UL9)
  have acc5 : Hid (Below w.heap.size w ((w4.setCell ⟨w.heap.size, 0, none⟩ (.slice a np c)).setCell ⟨w.heap.size, 1, none⟩ (.slice b nb d))) := hidP (below_set2 acc_w4.out (Nat.le_refl _))
  have sL5 : ((w4.setCell ⟨w.heap.size, 0, none⟩ (.slice a np c)).setCell ⟨w.heap.size, 1, none⟩ (.slice b nb d)).heap.size = w4.heap.size := by simp
  generalize ((w4.setCell ⟨w.heap.size, 0, none⟩ (.slice a np c)).setCell ⟨w.heap.size, 1, none⟩ (.slice b nb d)) = W5 at *
  have sz5 : w4.heap.size ≤ W5.heap.size := Nat.le_of_eq sL5.symm
  have pL5 : w.heap.size < W5.heap.size := by have := pbL_w4; omega
  have qL5 : w.heap.size + 1 < W5.heap.size := by have := atL_w4; omega
  have rL5 : w.heap.size + 1 + 1 < W5.heap.size := by have := rsL_w4; omega
  clear pb0_w4 pb1_w4 pbL_w4 at0_w4 at1_w4 at2_w4 at3_w4 at4_w4 atL_w4 rs0_w4 rs1_w4 rsL_w4 pbF_w4 rsF_w4 oP_w4 oB_w4 acc_w4 sL5
  refine (HPO.out _ a c b d oP5.out.row oB5.out.row).mono ?_
  rintro e w6 ⟨rfl, hb6⟩
  have sz6 := hb6.size
  have pb0_w6 := (hb6.cell pL5).trans p0
  have pb1_w6 := (hb6.cell pL5).trans p1
  have pbF_w6 : ∀ o, w6.frozen? ⟨w.heap.size, o, none⟩ = false := fun o => (hb6.frozen pL5).trans (pF o)
  have pbL_w6 : w.heap.size < w6.heap.size := Nat.lt_of_lt_of_le pL5 hb6.size
  have at0_w6 := (hb6.cell qL5).trans q0
  have at1_w6 := (hb6.cell qL5).trans q1
  have at2_w6 := (hb6.cell qL5).trans q2
  have at3_w6 := (hb6.cell qL5).trans q3
  have at4_w6 := (hb6.cell qL5).trans q4
  have atL_w6 : w.heap.size + 1 < w6.heap.size := Nat.lt_of_lt_of_le qL5 hb6.size
  have rs0_w6 := (hb6.cell rL5).trans r0
  have rs1_w6 := (hb6.cell rL5).trans r1
  have rsF_w6 : ∀ o, w6.frozen? ⟨w.heap.size + 1 + 1, o, none⟩ = false := fun o => (hb6.frozen rL5).trans (rF o)
  have rsL_w6 : w.heap.size + 1 + 1 < w6.heap.size := Nat.lt_of_lt_of_le rL5 hb6.size
  have oP_w6 := hidP (OwnG.later oP5.out hb6)
  have oB_w6 := hidP (OwnG.later oB5.out hb6)
  have acc_w6 := hidP (acc5.out.trans (hb6.mono acc5.out.size))
  clear pF p0 p1 pL5 q0 q1 q2 q3 q4 qL5 rF r0 r1 rL5 oP5 oB5 acc5 hb6
  go_wp2_with fail
  refine (HPk.out _).mono ?_
  rintro e w7 ⟨rfl, hb7⟩
  have sz7 := hb7.size
  have pb0_w7 := (hb7.cell pbL_w6).trans pb0_w6
  have pb1_w7 := (hb7.cell pbL_w6).trans pb1_w6
  have pbF_w7 : ∀ o, w7.frozen? ⟨w.heap.size, o, none⟩ = false := fun o => (hb7.frozen pbL_w6).trans (pbF_w6 o)
  have pbL_w7 : w.heap.size < w7.heap.size := Nat.lt_of_lt_of_le pbL_w6 hb7.size
  have at0_w7 := (hb7.cell atL_w6).trans at0_w6
  have at1_w7 := (hb7.cell atL_w6).trans at1_w6
  have at2_w7 := (hb7.cell atL_w6).trans at2_w6
  have at3_w7 := (hb7.cell atL_w6).trans at3_w6
  have at4_w7 := (hb7.cell atL_w6).trans at4_w6
  have atL_w7 : w.heap.size + 1 < w7.heap.size := Nat.lt_of_lt_of_le atL_w6 hb7.size
  have rs0_w7 := (hb7.cell rsL_w6).trans rs0_w6
  have rs1_w7 := (hb7.cell rsL_w6).trans rs1_w6
  have rsF_w7 : ∀ o, w7.frozen? ⟨w.heap.size + 1 + 1, o, none⟩ = false := fun o => (hb7.frozen rsL_w6).trans (rsF_w6 o)
  have rsL_w7 : w.heap.size + 1 + 1 < w7.heap.size := Nat.lt_of_lt_of_le rsL_w6 hb7.size
  have oP_w7 := hidP (OwnG.later oP_w6.out hb7)
  have oB_w7 := hidP (OwnG.later oB_w6.out hb7)
  have acc_w7 := hidP (acc_w6.out.trans (hb7.mono acc_w6.out.size))
  clear pbF_w6 pb0_w6 pb1_w6 pbL_w6 at0_w6 at1_w6 at2_w6 at3_w6 at4_w6 atL_w6 rsF_w6 rs0_w6 rs1_w6 rsL_w6 oP_w6 oB_w6 acc_w6 hb7
  go_wp2_with fail
  refine (HCt.out _ (w.heap.size + 1) a c oP_w7.out.row (fun x W hW => addOver_any pq x (w.heap.size + 1) W (Nat.lt_of_lt_of_le atL_w7 hW.size) ((hW.cell atL_w7).trans at0_w7) ((hW.cell atL_w7).trans at1_w7) ((hW.cell atL_w7).trans at2_w7) ((hW.cell atL_w7).trans at3_w7))).mono ?_
  rintro e w8 ⟨rfl, hb8⟩
  have sz8 := hb8.size
  have pb0_w8 := (hb8.cell pbL_w7).trans pb0_w7
  have pb1_w8 := (hb8.cell pbL_w7).trans pb1_w7
  have pbF_w8 : ∀ o, w8.frozen? ⟨w.heap.size, o, none⟩ = false := fun o => (hb8.frozen pbL_w7).trans (pbF_w7 o)
  have pbL_w8 : w.heap.size < w8.heap.size := Nat.lt_of_lt_of_le pbL_w7 hb8.size
  have at0_w8 := (hb8.cell atL_w7).trans at0_w7
  have at1_w8 := (hb8.cell atL_w7).trans at1_w7
  have at2_w8 := (hb8.cell atL_w7).trans at2_w7
  have at3_w8 := (hb8.cell atL_w7).trans at3_w7
  have at4_w8 := (hb8.cell atL_w7).trans at4_w7
  have atL_w8 : w.heap.size + 1 < w8.heap.size := Nat.lt_of_lt_of_le atL_w7 hb8.size
  have rs0_w8 := (hb8.cell rsL_w7).trans rs0_w7
  have rs1_w8 := (hb8.cell rsL_w7).trans rs1_w7
  have rsF_w8 : ∀ o, w8.frozen? ⟨w.heap.size + 1 + 1, o, none⟩ = false := fun o => (hb8.frozen rsL_w7).trans (rsF_w7 o)
  have rsL_w8 : w.heap.size + 1 + 1 < w8.heap.size := Nat.lt_of_lt_of_le rsL_w7 hb8.size
  have oP_w8 := hidP (OwnG.later oP_w7.out hb8)
  have oB_w8 := hidP (OwnG.later oB_w7.out hb8)
  have acc_w8 := hidP (acc_w7.out.trans (hb8.mono acc_w7.out.size))
  clear pbF_w7 pb0_w7 pb1_w7 pbL_w7 at0_w7 at1_w7 at2_w7 at3_w7 at4_w7 atL_w7 rsF_w7 rs0_w7 rs1_w7 rsL_w7 oP_w7 oB_w7 acc_w7 hb8
  have one : OwnG KPl 48 (w8.alloc (.cells #[.bool pq.p.s, .int .i64 pq.p.H.toInt, .int .i64 pq.p.L.toInt, .int .i64 pq.p.b, .int .i64 pq.n] 48)) 0 (.slice (some ⟨w8.heap.size, 0, none⟩) 1 1) [pq] := own_oneG KPl w8 0 _ pq (Nat.zero_le _)
  have aB := alloc_below w8 (.cells #[.bool pq.p.s, .int .i64 pq.p.H.toInt, .int .i64 pq.p.L.toInt, .int .i64 pq.p.b, .int .i64 pq.n] 48)
  have HZ := hidP (And.intro one (And.intro aB (OwnG.later oP_w8.out aB)))
  clear one aB
  go_wp2_with (at_builtin; refine wpList_appG Try.tyPl _ rfl (.tmp 31) (.tmp 33) 29 rfl W3.heap.size a np c 1 ps [pq] (.slice (some ⟨w8.heap.size, 0, none⟩) 1 1) rfl HN.out.1 rfl HZ.out.2.2 rfl (src_rowG Try.tyPl.1 1 1 (by show 0 < 5; omega) rfl HZ.out.1.row (fun h => by cases h)) (by omega) (by simp; omega) ?_; intro a9 c9 w9 ho9 hg9 ht9)
  have lo := fun j hj => (OwnG.lt oP_w8.out j hj).1
  have pb0_w9 := (World.cell?_of_block (hg9.block (w.heap.size) (Nat.lt_of_lt_of_le pbL_w8 HZ.out.2.1.size) (fun he => by have hl := lo _ he.symm; omega))).trans ((HZ.out.2.1.cell pbL_w8).trans pb0_w8)
  have pb1_w9 := (World.cell?_of_block (hg9.block (w.heap.size) (Nat.lt_of_lt_of_le pbL_w8 HZ.out.2.1.size) (fun he => by have hl := lo _ he.symm; omega))).trans ((HZ.out.2.1.cell pbL_w8).trans pb1_w8)
  have pbF_w9 : ∀ o, w9.frozen? ⟨w.heap.size, o, none⟩ = false := fun o => (World.frozen?_of_block (hg9.block (w.heap.size) (Nat.lt_of_lt_of_le pbL_w8 HZ.out.2.1.size) (fun he => by have hl := lo _ he.symm; omega))).trans ((HZ.out.2.1.frozen pbL_w8).trans (pbF_w8 o))
  have pbL_w9 : w.heap.size < w9.heap.size := Nat.lt_of_lt_of_le pbL_w8 (Nat.le_trans HZ.out.2.1.size hg9.size)
  have rs0_w9 := (World.cell?_of_block (hg9.block (w.heap.size + 1 + 1) (Nat.lt_of_lt_of_le rsL_w8 HZ.out.2.1.size) (fun he => by have hl := lo _ he.symm; omega))).trans ((HZ.out.2.1.cell rsL_w8).trans rs0_w8)
  have rs1_w9 := (World.cell?_of_block (hg9.block (w.heap.size + 1 + 1) (Nat.lt_of_lt_of_le rsL_w8 HZ.out.2.1.size) (fun he => by have hl := lo _ he.symm; omega))).trans ((HZ.out.2.1.cell rsL_w8).trans rs1_w8)
  have rsF_w9 : ∀ o, w9.frozen? ⟨w.heap.size + 1 + 1, o, none⟩ = false := fun o => (World.frozen?_of_block (hg9.block (w.heap.size + 1 + 1) (Nat.lt_of_lt_of_le rsL_w8 HZ.out.2.1.size) (fun he => by have hl := lo _ he.symm; omega))).trans ((HZ.out.2.1.frozen rsL_w8).trans (rsF_w8 o))
  have rsL_w9 : w.heap.size + 1 + 1 < w9.heap.size := Nat.lt_of_lt_of_le rsL_w8 (Nat.le_trans HZ.out.2.1.size hg9.size)
  have oB_w9 := hidP (OwnG.grown (OwnG.later oB_w8.out HZ.out.2.1) hg9 (fun j hj e => HNE.out j e hj))
  have acc_w9 := hidP ((acc_w8.out.trans (HZ.out.2.1.mono acc_w8.out.size)).grown hg9 (Nat.le_trans acc_w8.out.size HZ.out.2.1.size) (fun j e => by have hl := lo j e; omega))
  have hRow := hidP ho9.row
  have hbB := hidP (fun j hj => (OwnG.lt oB_w8.out j hj).2)
  have sz9 : w8.heap.size ≤ w9.heap.size := Nat.le_trans HZ.out.2.1.size hg9.size
  clear pb0_w8 pb1_w8 at0_w8 at1_w8 at2_w8 at3_w8 at4_w8 rs0_w8 rs1_w8 pbL_w8 atL_w8 rsL_w8 pbF_w8 rsF_w8 lo ho9 hg9 ht9 oP_w8 oB_w8 acc_w8
  have ul9 := pbL_w9
  have kl9 := rsL_w9
  go_wp2_with fail
  refine (HSo.out _ a9 c9 hRow.out).mono ?_
  rintro e w10 ⟨a10, c10, R, rfl, hpm, hst, o10, hb10⟩
  rw [HSu.out R hpm hst] at o10
  have pb0_w10 := (hb10.cell pbL_w9).trans pb0_w9
  have pb1_w10 := (hb10.cell pbL_w9).trans pb1_w9
  have pbF_w10 : ∀ o, w10.frozen? ⟨w.heap.size, o, none⟩ = false := fun o => (hb10.frozen pbL_w9).trans (pbF_w9 o)
  have pbL_w10 : w.heap.size < w10.heap.size := Nat.lt_of_lt_of_le pbL_w9 hb10.size
  have rs0_w10 := (hb10.cell rsL_w9).trans rs0_w9
  have rs1_w10 := (hb10.cell rsL_w9).trans rs1_w9
  have rsF_w10 : ∀ o, w10.frozen? ⟨w.heap.size + 1 + 1, o, none⟩ = false := fun o => (hb10.frozen rsL_w9).trans (rsF_w9 o)
  have rsL_w10 : w.heap.size + 1 + 1 < w10.heap.size := Nat.lt_of_lt_of_le rsL_w9 hb10.size
  have oB_w10 := hidP (OwnG.later oB_w9.out hb10)
  have acc_w10 := hidP (acc_w9.out.trans (hb10.mono acc_w9.out.size))
  have oP_w10 := hidP o10
  have HLo := hidP (fun k hk => (OwnG.lt o10 k hk).1)
  clear pbF_w9 pb0_w9 pb1_w9 pbL_w9 rsF_w9 rs0_w9 rs1_w9 rsL_w9 oB_w9 acc_w9 hb10 o10 hpm hst
  go_wp2_with fail
  refine bodyPost_ret (v := .tuple #[.agg #[.slice a10 (np + 1) c10, .slice b nb d], .int .i64 0]) (by simp [results, Try.results18, go_sem, rs0_w10, rs1_w10]) rfl ⟨_, _, _, _, rfl, (OwnG.set2 (OwnG.set1 oP_w10.out ul9) kl9).mono (Nat.le_of_lt ul9), (OwnG.set2 (OwnG.set1 oB_w10.out UL9) kL9).mono (Nat.le_of_lt UL9), (fun k h1 h2 => by have e1 := HLo.out k h1; have e2 := hbB.out k h2; omega), below_set2 (below_set1 acc_w10.out (Nat.le_refl _)) (by omega)⟩

end Go.Proofs.Ythbpehpnikknlaa

namespace Go.Proofs.Ythbpehpnikknlaa
open Go.RowKit

set_option maxRecDepth 10000 in
set_option maxHeartbeats 4000000 in
theorem sAdd_a (pq : Pl) (g h : Nat) (np nb : Nat) (ps : List Pl) (bs : List Bk) (w : World) (hnp : np = ps.length) (hnb : nb = bs.length) (hP : RowG KPl w (some ⟨g, 0, none⟩) ps) (hK : RowG KBk w (some ⟨h, 0, none⟩) bs) (hl : np ≤ 1048576) (hl' : nb ≤ 1048576) (hst : ∀ q ∈ bs, q.t.size ≤ 9223372036854775807) (hr : planB ps bs = false) :
    Calls Try.prog 16 #[.agg #[.slice (some ⟨g, 0, none⟩) np np, .slice (some ⟨h, 0, none⟩) nb nb], .agg #[.bool pq.p.s, .int .i64 pq.p.H.toInt, .int .i64 pq.p.L.toInt, .int .i64 pq.p.b, .int .i64 pq.n]] w fun e w' => ∃ a c b d, e = .returned (.tuple #[.agg #[.slice a np c, .slice b nb d], .int .i64 (1)]) ∧ OwnG KPl 48 w' w.heap.size (.slice a np c) (ps) ∧ OwnG KBk 56 w' w.heap.size (.slice b nb d) (bs) ∧ (∀ k, (Value.slice a np c).ownBlock = some k → (Value.slice b nb d).ownBlock ≠ some k) ∧ Below w.heap.size w w' := by
  have HOw := hidP (fun W h' => l5Copy_any (some ⟨g, 0, none⟩) np np (some ⟨h, 0, none⟩) nb nb ps bs W hnp hnb (hP.later h') (hK.later h') (fun e => by cases e) (fun e => by cases e) hl hl')
  have HPO := hidP (fun W h' => sPlanOk_any (some ⟨g, 0, none⟩) np np (some ⟨h, 0, none⟩) nb nb ps bs W hnp hnb (hP.later h') (hK.later h') (by omega) (by omega) hst)
  have HPk := hidP (fun W => sPoolOk_any pq W)
  have HN := hidP (And.intro hnp hnb)
  have HRP := hidP hP
  clear hP hK hnp hnb hst
  rw [hr] at HPO
  go_enter Try.func16, Try.ntmps16
  go_wp2_with fail
  have uF := frz2 w 32 (.slice (some ⟨g, 0, none⟩) np np) (.slice (some ⟨h, 0, none⟩) nb nb)
  obtain ⟨u0, u1⟩ := box2 (u := .slice (some ⟨g, 0, none⟩) np np) (v := .slice (some ⟨h, 0, none⟩) nb nb) w 32
  have uB := alloc_below w (.cells #[.slice (some ⟨g, 0, none⟩) np np, .slice (some ⟨h, 0, none⟩) nb nb] 32)
  have uL := alloc_lt w (.cells #[.slice (some ⟨g, 0, none⟩) np np, .slice (some ⟨h, 0, none⟩) nb nb] 32)
  have uS : (w.alloc (.cells #[.slice (some ⟨g, 0, none⟩) np np, .slice (some ⟨h, 0, none⟩) nb nb] 32)).heap.size = w.heap.size + 1 := by simp
  generalize w.alloc (.cells #[.slice (some ⟨g, 0, none⟩) np np, .slice (some ⟨h, 0, none⟩) nb nb] 32) = W1 at *
  obtain ⟨y0, y1, y2, y3, y4⟩ := boxPl (q := pq) W1 48
  have yB := alloc_below W1 (.cells #[.bool pq.p.s, .int .i64 pq.p.H.toInt, .int .i64 pq.p.L.toInt, .int .i64 pq.p.b, .int .i64 pq.n] 48)
  have yL := alloc_lt W1 (.cells #[.bool pq.p.s, .int .i64 pq.p.H.toInt, .int .i64 pq.p.L.toInt, .int .i64 pq.p.b, .int .i64 pq.n] 48)
  have yS : (W1.alloc (.cells #[.bool pq.p.s, .int .i64 pq.p.H.toInt, .int .i64 pq.p.L.toInt, .int .i64 pq.p.b, .int .i64 pq.n] 48)).heap.size = W1.heap.size + 1 := by simp
  generalize W1.alloc (.cells #[.bool pq.p.s, .int .i64 pq.p.H.toInt, .int .i64 pq.p.L.toInt, .int .i64 pq.p.b, .int .i64 pq.n] 48) = W2 at *
  rw [uS] at y0 y1 y2 y3 y4 yL yS
  have kF := frz2 W2 32 (.slice none 0 0) (.slice none 0 0)
  obtain ⟨k0, k1⟩ := box2 (u := .slice none 0 0) (v := .slice none 0 0) W2 32
  have kB := alloc_below W2 (.cells #[.slice none 0 0, .slice none 0 0] 32)
  have kL := alloc_lt W2 (.cells #[.slice none 0 0, .slice none 0 0] 32)
  have kS : (W2.alloc (.cells #[.slice none 0 0, .slice none 0 0] 32)).heap.size = W2.heap.size + 1 := by simp
  generalize W2.alloc (.cells #[.slice none 0 0, .slice none 0 0] 32) = W3 at *
  rw [yS] at k0 k1 kL kS
  rw [yS] at kF
  have l0 : w.heap.size < W2.heap.size := by omega
  have l1 : w.heap.size + 1 < W2.heap.size := by omega
  have U0 := (kB.cell l0).trans ((yB.cell uL).trans u0)
  have U1 := (kB.cell l0).trans ((yB.cell uL).trans u1)
  have UF : ∀ o, W3.frozen? ⟨w.heap.size, o, none⟩ = false := fun o => (kB.frozen l0).trans ((yB.frozen uL).trans (uF o))
  have Y0 := (kB.cell l1).trans y0
  have Y1 := (kB.cell l1).trans y1
  have Y2 := (kB.cell l1).trans y2
  have Y3 := (kB.cell l1).trans y3
  have Y4 := (kB.cell l1).trans y4
  have acc0 := hidP ((uB.trans (yB.mono uB.size)).trans (kB.mono (Nat.le_trans uB.size yB.size)))
  have UL : w.heap.size < W3.heap.size := by omega
  have YL : w.heap.size + 1 < W3.heap.size := by omega
  have kL3 : w.heap.size + 1 + 1 < W3.heap.size := by omega
  have UL9 := UL
  have kL9 := kL3
  clear uB yB kB uS yS kS u0 u1 y0 y1 y2 y3 y4 uL yL kL uF l0 l1
  refine (HOw.out _ acc0.out).mono ?_
  rintro e w4 ⟨a, c, b, d, rfl, op, ob, hne, hb4⟩
  have pb0_w4 := (hb4.cell UL).trans U0
  have pb1_w4 := (hb4.cell UL).trans U1
  have pbF_w4 : ∀ o, w4.frozen? ⟨w.heap.size, o, none⟩ = false := fun o => (hb4.frozen UL).trans (UF o)
  have pbL_w4 : w.heap.size < w4.heap.size := Nat.lt_of_lt_of_le UL hb4.size
  have at0_w4 := (hb4.cell YL).trans Y0
  have at1_w4 := (hb4.cell YL).trans Y1
  have at2_w4 := (hb4.cell YL).trans Y2
  have at3_w4 := (hb4.cell YL).trans Y3
  have at4_w4 := (hb4.cell YL).trans Y4
  have atL_w4 : w.heap.size + 1 < w4.heap.size := Nat.lt_of_lt_of_le YL hb4.size
  have rs0_w4 := (hb4.cell kL3).trans k0
  have rs1_w4 := (hb4.cell kL3).trans k1
  have rsF_w4 : ∀ o, w4.frozen? ⟨w.heap.size + 1 + 1, o, none⟩ = false := fun o => (hb4.frozen kL3).trans (kF o)
  have rsL_w4 : w.heap.size + 1 + 1 < w4.heap.size := Nat.lt_of_lt_of_le kL3 hb4.size
  have acc_w4 := hidP (acc0.out.trans (hb4.mono acc0.out.size))
  have w43c := hb4.size
  have HLB4 := hidP (fun j hj => (OwnG.lt ob j hj).2)
  have oP_w4 := hidP op
  have oB_w4 := hidP ob
  have HNE := hidP hne
  clear UF U0 U1 UL Y0 Y1 Y2 Y3 Y4 YL kF k0 k1 kL3 acc0 hb4 op ob hne
  go_wp2_with fail
  have oF := frz2 w4 32 (.slice a np c) (.slice b nb d)
  obtain ⟨o0, o1⟩ := box2 (u := .slice a np c) (v := .slice b nb d) w4 32
  have oB := alloc_below w4 (.cells #[.slice a np c, .slice b nb d] 32)
  have oL := alloc_lt w4 (.cells #[.slice a np c, .slice b nb d] 32)
  have oS : (w4.alloc (.cells #[.slice a np c, .slice b nb d] 32)).heap.size = w4.heap.size + 1 := by simp
  generalize w4.alloc (.cells #[.slice a np c, .slice b nb d] 32) = W5 at *
  have hb5 := oB
  have pb0_W5 := (hb5.cell pbL_w4).trans pb0_w4
  have pb1_W5 := (hb5.cell pbL_w4).trans pb1_w4
  have pbF_W5 : ∀ o, W5.frozen? ⟨w.heap.size, o, none⟩ = false := fun o => (hb5.frozen pbL_w4).trans (pbF_w4 o)
  have pbL_W5 : w.heap.size < W5.heap.size := Nat.lt_of_lt_of_le pbL_w4 hb5.size
  have at0_W5 := (hb5.cell atL_w4).trans at0_w4
  have at1_W5 := (hb5.cell atL_w4).trans at1_w4
  have at2_W5 := (hb5.cell atL_w4).trans at2_w4
  have at3_W5 := (hb5.cell atL_w4).trans at3_w4
  have at4_W5 := (hb5.cell atL_w4).trans at4_w4
  have atL_W5 : w.heap.size + 1 < W5.heap.size := Nat.lt_of_lt_of_le atL_w4 hb5.size
  have rs0_W5 := (hb5.cell rsL_w4).trans rs0_w4
  have rs1_W5 := (hb5.cell rsL_w4).trans rs1_w4
  have rsF_W5 : ∀ o, W5.frozen? ⟨w.heap.size + 1 + 1, o, none⟩ = false := fun o => (hb5.frozen rsL_w4).trans (rsF_w4 o)
  have rsL_W5 : w.heap.size + 1 + 1 < W5.heap.size := Nat.lt_of_lt_of_le rsL_w4 hb5.size
  have oP_W5 := hidP (OwnG.later oP_w4.out hb5)
  have oB_W5 := hidP (OwnG.later oB_w4.out hb5)
  have acc_W5 := hidP (acc_w4.out.trans (hb5.mono acc_w4.out.size))
  clear pbF_w4 pb0_w4 pb1_w4 pbL_w4 at0_w4 at1_w4 at2_w4 at3_w4 at4_w4 atL_w4 rsF_w4 rs0_w4 rs1_w4 rsL_w4 oP_w4 oB_w4 acc_w4 hb5 oB oS
  refine (HPO.out _ acc_W5.out).mono ?_
  rintro e w6 ⟨rfl, hb6⟩
  have pb0_w6 := (hb6.cell pbL_W5).trans pb0_W5
  have pb1_w6 := (hb6.cell pbL_W5).trans pb1_W5
  have pbF_w6 : ∀ o, w6.frozen? ⟨w.heap.size, o, none⟩ = false := fun o => (hb6.frozen pbL_W5).trans (pbF_W5 o)
  have pbL_w6 : w.heap.size < w6.heap.size := Nat.lt_of_lt_of_le pbL_W5 hb6.size
  have at0_w6 := (hb6.cell atL_W5).trans at0_W5
  have at1_w6 := (hb6.cell atL_W5).trans at1_W5
  have at2_w6 := (hb6.cell atL_W5).trans at2_W5
  have at3_w6 := (hb6.cell atL_W5).trans at3_W5
  have at4_w6 := (hb6.cell atL_W5).trans at4_W5
  have atL_w6 : w.heap.size + 1 < w6.heap.size := Nat.lt_of_lt_of_le atL_W5 hb6.size
  have rs0_w6 := (hb6.cell rsL_W5).trans rs0_W5
  have rs1_w6 := (hb6.cell rsL_W5).trans rs1_W5
  have rsF_w6 : ∀ o, w6.frozen? ⟨w.heap.size + 1 + 1, o, none⟩ = false := fun o => (hb6.frozen rsL_W5).trans (rsF_W5 o)
  have rsL_w6 : w.heap.size + 1 + 1 < w6.heap.size := Nat.lt_of_lt_of_le rsL_W5 hb6.size
  have ot0_w6 := (hb6.cell oL).trans o0
  have ot1_w6 := (hb6.cell oL).trans o1
  have otF_w6 : ∀ o, w6.frozen? ⟨w4.heap.size, o, none⟩ = false := fun o => (hb6.frozen oL).trans (oF o)
  have otL_w6 : w4.heap.size < w6.heap.size := Nat.lt_of_lt_of_le oL hb6.size
  have oP_w6 := hidP (OwnG.later oP_W5.out hb6)
  have oB_w6 := hidP (OwnG.later oB_W5.out hb6)
  have acc_w6 := hidP (acc_W5.out.trans (hb6.mono acc_W5.out.size))
  clear pbF_W5 pb0_W5 pb1_W5 pbL_W5 at0_W5 at1_W5 at2_W5 at3_W5 at4_W5 atL_W5 rsF_W5 rs0_W5 rs1_W5 rsL_W5 oF o0 o1 oL oP_W5 oB_W5 acc_W5 hb6
  go_wp2_with fail
  refine bodyPost_ret (v := .tuple #[.agg #[.slice a np c, .slice b nb d], .int .i64 1]) (by simp [results, Try.results16, go_sem, rs0_w6, rs1_w6]) rfl ⟨_, _, _, _, rfl, (OwnG.set2 oP_w6.out kL9).mono (Nat.le_of_lt UL9), (OwnG.set2 oB_w6.out kL9).mono (Nat.le_of_lt UL9), HNE.out, below_set2 acc_w6.out (by omega)⟩

set_option maxRecDepth 10000 in
set_option maxHeartbeats 4000000 in
theorem sAdd_b (pq : Pl) (g h : Nat) (np nb : Nat) (ps : List Pl) (bs : List Bk) (w : World) (hnp : np = ps.length) (hnb : nb = bs.length) (hP : RowG KPl w (some ⟨g, 0, none⟩) ps) (hK : RowG KBk w (some ⟨h, 0, none⟩) bs) (hl : np ≤ 1048576) (hl' : nb ≤ 1048576) (hst : ∀ q ∈ bs, q.t.size ≤ 9223372036854775807) (hr : planB ps bs = true) (hk : okPl pq = false) :
    Calls Try.prog 16 #[.agg #[.slice (some ⟨g, 0, none⟩) np np, .slice (some ⟨h, 0, none⟩) nb nb], .agg #[.bool pq.p.s, .int .i64 pq.p.H.toInt, .int .i64 pq.p.L.toInt, .int .i64 pq.p.b, .int .i64 pq.n]] w fun e w' => ∃ a c b d, e = .returned (.tuple #[.agg #[.slice a np c, .slice b nb d], .int .i64 (1)]) ∧ OwnG KPl 48 w' w.heap.size (.slice a np c) (ps) ∧ OwnG KBk 56 w' w.heap.size (.slice b nb d) (bs) ∧ (∀ k, (Value.slice a np c).ownBlock = some k → (Value.slice b nb d).ownBlock ≠ some k) ∧ Below w.heap.size w w' := by
  have HOw := hidP (fun W h' => l5Copy_any (some ⟨g, 0, none⟩) np np (some ⟨h, 0, none⟩) nb nb ps bs W hnp hnb (hP.later h') (hK.later h') (fun e => by cases e) (fun e => by cases e) hl hl')
  have HPO := hidP (fun W h' => sPlanOk_any (some ⟨g, 0, none⟩) np np (some ⟨h, 0, none⟩) nb nb ps bs W hnp hnb (hP.later h') (hK.later h') (by omega) (by omega) hst)
  have HPk := hidP (fun W => sPoolOk_any pq W)
  have HN := hidP (And.intro hnp hnb)
  have HRP := hidP hP
  clear hP hK hnp hnb hst
  rw [hr] at HPO
  rw [hk] at HPk
  go_enter Try.func16, Try.ntmps16
  go_wp2_with fail
  have uF := frz2 w 32 (.slice (some ⟨g, 0, none⟩) np np) (.slice (some ⟨h, 0, none⟩) nb nb)
  obtain ⟨u0, u1⟩ := box2 (u := .slice (some ⟨g, 0, none⟩) np np) (v := .slice (some ⟨h, 0, none⟩) nb nb) w 32
  have uB := alloc_below w (.cells #[.slice (some ⟨g, 0, none⟩) np np, .slice (some ⟨h, 0, none⟩) nb nb] 32)
  have uL := alloc_lt w (.cells #[.slice (some ⟨g, 0, none⟩) np np, .slice (some ⟨h, 0, none⟩) nb nb] 32)
  have uS : (w.alloc (.cells #[.slice (some ⟨g, 0, none⟩) np np, .slice (some ⟨h, 0, none⟩) nb nb] 32)).heap.size = w.heap.size + 1 := by simp
  generalize w.alloc (.cells #[.slice (some ⟨g, 0, none⟩) np np, .slice (some ⟨h, 0, none⟩) nb nb] 32) = W1 at *
  obtain ⟨y0, y1, y2, y3, y4⟩ := boxPl (q := pq) W1 48
  have yB := alloc_below W1 (.cells #[.bool pq.p.s, .int .i64 pq.p.H.toInt, .int .i64 pq.p.L.toInt, .int .i64 pq.p.b, .int .i64 pq.n] 48)
  have yL := alloc_lt W1 (.cells #[.bool pq.p.s, .int .i64 pq.p.H.toInt, .int .i64 pq.p.L.toInt, .int .i64 pq.p.b, .int .i64 pq.n] 48)
  have yS : (W1.alloc (.cells #[.bool pq.p.s, .int .i64 pq.p.H.toInt, .int .i64 pq.p.L.toInt, .int .i64 pq.p.b, .int .i64 pq.n] 48)).heap.size = W1.heap.size + 1 := by simp
  generalize W1.alloc (.cells #[.bool pq.p.s, .int .i64 pq.p.H.toInt, .int .i64 pq.p.L.toInt, .int .i64 pq.p.b, .int .i64 pq.n] 48) = W2 at *
  rw [uS] at y0 y1 y2 y3 y4 yL yS
  have kF := frz2 W2 32 (.slice none 0 0) (.slice none 0 0)
  obtain ⟨k0, k1⟩ := box2 (u := .slice none 0 0) (v := .slice none 0 0) W2 32
  have kB := alloc_below W2 (.cells #[.slice none 0 0, .slice none 0 0] 32)
  have kL := alloc_lt W2 (.cells #[.slice none 0 0, .slice none 0 0] 32)
  have kS : (W2.alloc (.cells #[.slice none 0 0, .slice none 0 0] 32)).heap.size = W2.heap.size + 1 := by simp
  generalize W2.alloc (.cells #[.slice none 0 0, .slice none 0 0] 32) = W3 at *
  rw [yS] at k0 k1 kL kS
  rw [yS] at kF
  have l0 : w.heap.size < W2.heap.size := by omega
  have l1 : w.heap.size + 1 < W2.heap.size := by omega
  have U0 := (kB.cell l0).trans ((yB.cell uL).trans u0)
  have U1 := (kB.cell l0).trans ((yB.cell uL).trans u1)
  have UF : ∀ o, W3.frozen? ⟨w.heap.size, o, none⟩ = false := fun o => (kB.frozen l0).trans ((yB.frozen uL).trans (uF o))
  have Y0 := (kB.cell l1).trans y0
  have Y1 := (kB.cell l1).trans y1
  have Y2 := (kB.cell l1).trans y2
  have Y3 := (kB.cell l1).trans y3
  have Y4 := (kB.cell l1).trans y4
  have acc0 := hidP ((uB.trans (yB.mono uB.size)).trans (kB.mono (Nat.le_trans uB.size yB.size)))
  have UL : w.heap.size < W3.heap.size := by omega
  have YL : w.heap.size + 1 < W3.heap.size := by omega
  have kL3 : w.heap.size + 1 + 1 < W3.heap.size := by omega
  have UL9 := UL
  have kL9 := kL3
  clear uB yB kB uS yS kS u0 u1 y0 y1 y2 y3 y4 uL yL kL uF l0 l1
  refine (HOw.out _ acc0.out).mono ?_
  rintro e w4 ⟨a, c, b, d, rfl, op, ob, hne, hb4⟩
  have pb0_w4 := (hb4.cell UL).trans U0
  have pb1_w4 := (hb4.cell UL).trans U1
  have pbF_w4 : ∀ o, w4.frozen? ⟨w.heap.size, o, none⟩ = false := fun o => (hb4.frozen UL).trans (UF o)
  have pbL_w4 : w.heap.size < w4.heap.size := Nat.lt_of_lt_of_le UL hb4.size
  have at0_w4 := (hb4.cell YL).trans Y0
  have at1_w4 := (hb4.cell YL).trans Y1
  have at2_w4 := (hb4.cell YL).trans Y2
  have at3_w4 := (hb4.cell YL).trans Y3
  have at4_w4 := (hb4.cell YL).trans Y4
  have atL_w4 : w.heap.size + 1 < w4.heap.size := Nat.lt_of_lt_of_le YL hb4.size
  have rs0_w4 := (hb4.cell kL3).trans k0
  have rs1_w4 := (hb4.cell kL3).trans k1
  have rsF_w4 : ∀ o, w4.frozen? ⟨w.heap.size + 1 + 1, o, none⟩ = false := fun o => (hb4.frozen kL3).trans (kF o)
  have rsL_w4 : w.heap.size + 1 + 1 < w4.heap.size := Nat.lt_of_lt_of_le kL3 hb4.size
  have acc_w4 := hidP (acc0.out.trans (hb4.mono acc0.out.size))
  have w43c := hb4.size
  have HLB4 := hidP (fun j hj => (OwnG.lt ob j hj).2)
  have oP_w4 := hidP op
  have oB_w4 := hidP ob
  have HNE := hidP hne
  clear UF U0 U1 UL Y0 Y1 Y2 Y3 Y4 YL kF k0 k1 kL3 acc0 hb4 op ob hne
  go_wp2_with fail
  have oF := frz2 w4 32 (.slice a np c) (.slice b nb d)
  obtain ⟨o0, o1⟩ := box2 (u := .slice a np c) (v := .slice b nb d) w4 32
  have oB := alloc_below w4 (.cells #[.slice a np c, .slice b nb d] 32)
  have oL := alloc_lt w4 (.cells #[.slice a np c, .slice b nb d] 32)
  have oS : (w4.alloc (.cells #[.slice a np c, .slice b nb d] 32)).heap.size = w4.heap.size + 1 := by simp
  generalize w4.alloc (.cells #[.slice a np c, .slice b nb d] 32) = W5 at *
  have hb5 := oB
  have pb0_W5 := (hb5.cell pbL_w4).trans pb0_w4
  have pb1_W5 := (hb5.cell pbL_w4).trans pb1_w4
  have pbF_W5 : ∀ o, W5.frozen? ⟨w.heap.size, o, none⟩ = false := fun o => (hb5.frozen pbL_w4).trans (pbF_w4 o)
  have pbL_W5 : w.heap.size < W5.heap.size := Nat.lt_of_lt_of_le pbL_w4 hb5.size
  have at0_W5 := (hb5.cell atL_w4).trans at0_w4
  have at1_W5 := (hb5.cell atL_w4).trans at1_w4
  have at2_W5 := (hb5.cell atL_w4).trans at2_w4
  have at3_W5 := (hb5.cell atL_w4).trans at3_w4
  have at4_W5 := (hb5.cell atL_w4).trans at4_w4
  have atL_W5 : w.heap.size + 1 < W5.heap.size := Nat.lt_of_lt_of_le atL_w4 hb5.size
  have rs0_W5 := (hb5.cell rsL_w4).trans rs0_w4
  have rs1_W5 := (hb5.cell rsL_w4).trans rs1_w4
  have rsF_W5 : ∀ o, W5.frozen? ⟨w.heap.size + 1 + 1, o, none⟩ = false := fun o => (hb5.frozen rsL_w4).trans (rsF_w4 o)
  have rsL_W5 : w.heap.size + 1 + 1 < W5.heap.size := Nat.lt_of_lt_of_le rsL_w4 hb5.size
  have oP_W5 := hidP (OwnG.later oP_w4.out hb5)
  have oB_W5 := hidP (OwnG.later oB_w4.out hb5)
  have acc_W5 := hidP (acc_w4.out.trans (hb5.mono acc_w4.out.size))
  clear pbF_w4 pb0_w4 pb1_w4 pbL_w4 at0_w4 at1_w4 at2_w4 at3_w4 at4_w4 atL_w4 rsF_w4 rs0_w4 rs1_w4 rsL_w4 oP_w4 oB_w4 acc_w4 hb5 oB oS
  refine (HPO.out _ acc_W5.out).mono ?_
  rintro e w6 ⟨rfl, hb6⟩
  have pb0_w6 := (hb6.cell pbL_W5).trans pb0_W5
  have pb1_w6 := (hb6.cell pbL_W5).trans pb1_W5
  have pbF_w6 : ∀ o, w6.frozen? ⟨w.heap.size, o, none⟩ = false := fun o => (hb6.frozen pbL_W5).trans (pbF_W5 o)
  have pbL_w6 : w.heap.size < w6.heap.size := Nat.lt_of_lt_of_le pbL_W5 hb6.size
  have at0_w6 := (hb6.cell atL_W5).trans at0_W5
  have at1_w6 := (hb6.cell atL_W5).trans at1_W5
  have at2_w6 := (hb6.cell atL_W5).trans at2_W5
  have at3_w6 := (hb6.cell atL_W5).trans at3_W5
  have at4_w6 := (hb6.cell atL_W5).trans at4_W5
  have atL_w6 : w.heap.size + 1 < w6.heap.size := Nat.lt_of_lt_of_le atL_W5 hb6.size
  have rs0_w6 := (hb6.cell rsL_W5).trans rs0_W5
  have rs1_w6 := (hb6.cell rsL_W5).trans rs1_W5
  have rsF_w6 : ∀ o, w6.frozen? ⟨w.heap.size + 1 + 1, o, none⟩ = false := fun o => (hb6.frozen rsL_W5).trans (rsF_W5 o)
  have rsL_w6 : w.heap.size + 1 + 1 < w6.heap.size := Nat.lt_of_lt_of_le rsL_W5 hb6.size
  have ot0_w6 := (hb6.cell oL).trans o0
  have ot1_w6 := (hb6.cell oL).trans o1
  have otF_w6 : ∀ o, w6.frozen? ⟨w4.heap.size, o, none⟩ = false := fun o => (hb6.frozen oL).trans (oF o)
  have otL_w6 : w4.heap.size < w6.heap.size := Nat.lt_of_lt_of_le oL hb6.size
  have oP_w6 := hidP (OwnG.later oP_W5.out hb6)
  have oB_w6 := hidP (OwnG.later oB_W5.out hb6)
  have acc_w6 := hidP (acc_W5.out.trans (hb6.mono acc_W5.out.size))
  clear pbF_W5 pb0_W5 pb1_W5 pbL_W5 at0_W5 at1_W5 at2_W5 at3_W5 at4_W5 atL_W5 rsF_W5 rs0_W5 rs1_W5 rsL_W5 oF o0 o1 oL oP_W5 oB_W5 acc_W5 hb6
  go_wp2_with fail
  refine (HPk.out _).mono ?_
  rintro e w7 ⟨rfl, hb7⟩
  have pb0_w7 := (hb7.cell pbL_w6).trans pb0_w6
  have pb1_w7 := (hb7.cell pbL_w6).trans pb1_w6
  have pbF_w7 : ∀ o, w7.frozen? ⟨w.heap.size, o, none⟩ = false := fun o => (hb7.frozen pbL_w6).trans (pbF_w6 o)
  have pbL_w7 : w.heap.size < w7.heap.size := Nat.lt_of_lt_of_le pbL_w6 hb7.size
  have at0_w7 := (hb7.cell atL_w6).trans at0_w6
  have at1_w7 := (hb7.cell atL_w6).trans at1_w6
  have at2_w7 := (hb7.cell atL_w6).trans at2_w6
  have at3_w7 := (hb7.cell atL_w6).trans at3_w6
  have at4_w7 := (hb7.cell atL_w6).trans at4_w6
  have atL_w7 : w.heap.size + 1 < w7.heap.size := Nat.lt_of_lt_of_le atL_w6 hb7.size
  have rs0_w7 := (hb7.cell rsL_w6).trans rs0_w6
  have rs1_w7 := (hb7.cell rsL_w6).trans rs1_w6
  have rsF_w7 : ∀ o, w7.frozen? ⟨w.heap.size + 1 + 1, o, none⟩ = false := fun o => (hb7.frozen rsL_w6).trans (rsF_w6 o)
  have rsL_w7 : w.heap.size + 1 + 1 < w7.heap.size := Nat.lt_of_lt_of_le rsL_w6 hb7.size
  have ot0_w7 := (hb7.cell otL_w6).trans ot0_w6
  have ot1_w7 := (hb7.cell otL_w6).trans ot1_w6
  have otF_w7 : ∀ o, w7.frozen? ⟨w4.heap.size, o, none⟩ = false := fun o => (hb7.frozen otL_w6).trans (otF_w6 o)
  have otL_w7 : w4.heap.size < w7.heap.size := Nat.lt_of_lt_of_le otL_w6 hb7.size
  have oP_w7 := hidP (OwnG.later oP_w6.out hb7)
  have oB_w7 := hidP (OwnG.later oB_w6.out hb7)
  have acc_w7 := hidP (acc_w6.out.trans (hb7.mono acc_w6.out.size))
  clear pbF_w6 pb0_w6 pb1_w6 pbL_w6 at0_w6 at1_w6 at2_w6 at3_w6 at4_w6 atL_w6 rsF_w6 rs0_w6 rs1_w6 rsL_w6 otF_w6 ot0_w6 ot1_w6 otL_w6 oP_w6 oB_w6 acc_w6 hb7
  go_wp2_with fail
  refine bodyPost_ret (v := .tuple #[.agg #[.slice a np c, .slice b nb d], .int .i64 1]) (by simp [results, Try.results16, go_sem, rs0_w7, rs1_w7]) rfl ⟨_, _, _, _, rfl, (OwnG.set2 oP_w7.out kL9).mono (Nat.le_of_lt UL9), (OwnG.set2 oB_w7.out kL9).mono (Nat.le_of_lt UL9), HNE.out, below_set2 acc_w7.out (by omega)⟩

set_option maxRecDepth 10000 in
set_option maxHeartbeats 4000000 in
theorem sAdd_c (pq : Pl) (g h : Nat) (np nb : Nat) (ps : List Pl) (bs : List Bk) (w : World) (hnp : np = ps.length) (hnb : nb = bs.length) (hP : RowG KPl w (some ⟨g, 0, none⟩) ps) (hK : RowG KBk w (some ⟨h, 0, none⟩) bs) (hl : np ≤ 1048576) (hl' : nb ≤ 1048576) (hst : ∀ q ∈ bs, q.t.size ≤ 9223372036854775807) (hr : planB ps bs = true) (hk : okPl pq = true) (h20 : np = 20) :
    Calls Try.prog 16 #[.agg #[.slice (some ⟨g, 0, none⟩) np np, .slice (some ⟨h, 0, none⟩) nb nb], .agg #[.bool pq.p.s, .int .i64 pq.p.H.toInt, .int .i64 pq.p.L.toInt, .int .i64 pq.p.b, .int .i64 pq.n]] w fun e w' => ∃ a c b d, e = .returned (.tuple #[.agg #[.slice a np c, .slice b nb d], .int .i64 (2)]) ∧ OwnG KPl 48 w' w.heap.size (.slice a np c) (ps) ∧ OwnG KBk 56 w' w.heap.size (.slice b nb d) (bs) ∧ (∀ k, (Value.slice a np c).ownBlock = some k → (Value.slice b nb d).ownBlock ≠ some k) ∧ Below w.heap.size w w' := by
  have HOw := hidP (fun W h' => l5Copy_any (some ⟨g, 0, none⟩) np np (some ⟨h, 0, none⟩) nb nb ps bs W hnp hnb (hP.later h') (hK.later h') (fun e => by cases e) (fun e => by cases e) hl hl')
  have HPO := hidP (fun W h' => sPlanOk_any (some ⟨g, 0, none⟩) np np (some ⟨h, 0, none⟩) nb nb ps bs W hnp hnb (hP.later h') (hK.later h') (by omega) (by omega) hst)
  have HPk := hidP (fun W => sPoolOk_any pq W)
  have HN := hidP (And.intro hnp hnb)
  have HRP := hidP hP
  clear hP hK hnp hnb hst
  rw [hr] at HPO
  rw [hk] at HPk
  have g20' : ((np : Int) == 20) = true := beq_iff_eq.2 (by omega)
  have H20 := hidP h20
  clear h20
  go_enter Try.func16, Try.ntmps16
  go_wp2_with fail
  have uF := frz2 w 32 (.slice (some ⟨g, 0, none⟩) np np) (.slice (some ⟨h, 0, none⟩) nb nb)
  obtain ⟨u0, u1⟩ := box2 (u := .slice (some ⟨g, 0, none⟩) np np) (v := .slice (some ⟨h, 0, none⟩) nb nb) w 32
  have uB := alloc_below w (.cells #[.slice (some ⟨g, 0, none⟩) np np, .slice (some ⟨h, 0, none⟩) nb nb] 32)
  have uL := alloc_lt w (.cells #[.slice (some ⟨g, 0, none⟩) np np, .slice (some ⟨h, 0, none⟩) nb nb] 32)
  have uS : (w.alloc (.cells #[.slice (some ⟨g, 0, none⟩) np np, .slice (some ⟨h, 0, none⟩) nb nb] 32)).heap.size = w.heap.size + 1 := by simp
  generalize w.alloc (.cells #[.slice (some ⟨g, 0, none⟩) np np, .slice (some ⟨h, 0, none⟩) nb nb] 32) = W1 at *
  obtain ⟨y0, y1, y2, y3, y4⟩ := boxPl (q := pq) W1 48
  have yB := alloc_below W1 (.cells #[.bool pq.p.s, .int .i64 pq.p.H.toInt, .int .i64 pq.p.L.toInt, .int .i64 pq.p.b, .int .i64 pq.n] 48)
  have yL := alloc_lt W1 (.cells #[.bool pq.p.s, .int .i64 pq.p.H.toInt, .int .i64 pq.p.L.toInt, .int .i64 pq.p.b, .int .i64 pq.n] 48)
  have yS : (W1.alloc (.cells #[.bool pq.p.s, .int .i64 pq.p.H.toInt, .int .i64 pq.p.L.toInt, .int .i64 pq.p.b, .int .i64 pq.n] 48)).heap.size = W1.heap.size + 1 := by simp
  generalize W1.alloc (.cells #[.bool pq.p.s, .int .i64 pq.p.H.toInt, .int .i64 pq.p.L.toInt, .int .i64 pq.p.b, .int .i64 pq.n] 48) = W2 at *
  rw [uS] at y0 y1 y2 y3 y4 yL yS
  have kF := frz2 W2 32 (.slice none 0 0) (.slice none 0 0)
  obtain ⟨k0, k1⟩ := box2 (u := .slice none 0 0) (v := .slice none 0 0) W2 32
  have kB := alloc_below W2 (.cells #[.slice none 0 0, .slice none 0 0] 32)
  have kL := alloc_lt W2 (.cells #[.slice none 0 0, .slice none 0 0] 32)
  have kS : (W2.alloc (.cells #[.slice none 0 0, .slice none 0 0] 32)).heap.size = W2.heap.size + 1 := by simp
  generalize W2.alloc (.cells #[.slice none 0 0, .slice none 0 0] 32) = W3 at *
  rw [yS] at k0 k1 kL kS
  rw [yS] at kF
  have l0 : w.heap.size < W2.heap.size := by omega
  have l1 : w.heap.size + 1 < W2.heap.size := by omega
  have U0 := (kB.cell l0).trans ((yB.cell uL).trans u0)
  have U1 := (kB.cell l0).trans ((yB.cell uL).trans u1)
  have UF : ∀ o, W3.frozen? ⟨w.heap.size, o, none⟩ = false := fun o => (kB.frozen l0).trans ((yB.frozen uL).trans (uF o))
  have Y0 := (kB.cell l1).trans y0
  have Y1 := (kB.cell l1).trans y1
  have Y2 := (kB.cell l1).trans y2
  have Y3 := (kB.cell l1).trans y3
  have Y4 := (kB.cell l1).trans y4
  have acc0 := hidP ((uB.trans (yB.mono uB.size)).trans (kB.mono (Nat.le_trans uB.size yB.size)))
  have UL : w.heap.size < W3.heap.size := by omega
  have YL : w.heap.size + 1 < W3.heap.size := by omega
  have kL3 : w.heap.size + 1 + 1 < W3.heap.size := by omega
  have UL9 := UL
  have kL9 := kL3
  clear uB yB kB uS yS kS u0 u1 y0 y1 y2 y3 y4 uL yL kL uF l0 l1
  refine (HOw.out _ acc0.out).mono ?_
  rintro e w4 ⟨a, c, b, d, rfl, op, ob, hne, hb4⟩
  have pb0_w4 := (hb4.cell UL).trans U0
  have pb1_w4 := (hb4.cell UL).trans U1
  have pbF_w4 : ∀ o, w4.frozen? ⟨w.heap.size, o, none⟩ = false := fun o => (hb4.frozen UL).trans (UF o)
  have pbL_w4 : w.heap.size < w4.heap.size := Nat.lt_of_lt_of_le UL hb4.size
  have at0_w4 := (hb4.cell YL).trans Y0
  have at1_w4 := (hb4.cell YL).trans Y1
  have at2_w4 := (hb4.cell YL).trans Y2
  have at3_w4 := (hb4.cell YL).trans Y3
  have at4_w4 := (hb4.cell YL).trans Y4
  have atL_w4 : w.heap.size + 1 < w4.heap.size := Nat.lt_of_lt_of_le YL hb4.size
  have rs0_w4 := (hb4.cell kL3).trans k0
  have rs1_w4 := (hb4.cell kL3).trans k1
  have rsF_w4 : ∀ o, w4.frozen? ⟨w.heap.size + 1 + 1, o, none⟩ = false := fun o => (hb4.frozen kL3).trans (kF o)
  have rsL_w4 : w.heap.size + 1 + 1 < w4.heap.size := Nat.lt_of_lt_of_le kL3 hb4.size
  have acc_w4 := hidP (acc0.out.trans (hb4.mono acc0.out.size))
  have w43c := hb4.size
  have HLB4 := hidP (fun j hj => (OwnG.lt ob j hj).2)
  have oP_w4 := hidP op
  have oB_w4 := hidP ob
  have HNE := hidP hne
  clear UF U0 U1 UL Y0 Y1 Y2 Y3 Y4 YL kF k0 k1 kL3 acc0 hb4 op ob hne
  go_wp2_with fail
  have oF := frz2 w4 32 (.slice a np c) (.slice b nb d)
  obtain ⟨o0, o1⟩ := box2 (u := .slice a np c) (v := .slice b nb d) w4 32
  have oB := alloc_below w4 (.cells #[.slice a np c, .slice b nb d] 32)
  have oL := alloc_lt w4 (.cells #[.slice a np c, .slice b nb d] 32)
  have oS : (w4.alloc (.cells #[.slice a np c, .slice b nb d] 32)).heap.size = w4.heap.size + 1 := by simp
  generalize w4.alloc (.cells #[.slice a np c, .slice b nb d] 32) = W5 at *
  have hb5 := oB
  have pb0_W5 := (hb5.cell pbL_w4).trans pb0_w4
  have pb1_W5 := (hb5.cell pbL_w4).trans pb1_w4
  have pbF_W5 : ∀ o, W5.frozen? ⟨w.heap.size, o, none⟩ = false := fun o => (hb5.frozen pbL_w4).trans (pbF_w4 o)
  have pbL_W5 : w.heap.size < W5.heap.size := Nat.lt_of_lt_of_le pbL_w4 hb5.size
  have at0_W5 := (hb5.cell atL_w4).trans at0_w4
  have at1_W5 := (hb5.cell atL_w4).trans at1_w4
  have at2_W5 := (hb5.cell atL_w4).trans at2_w4
  have at3_W5 := (hb5.cell atL_w4).trans at3_w4
  have at4_W5 := (hb5.cell atL_w4).trans at4_w4
  have atL_W5 : w.heap.size + 1 < W5.heap.size := Nat.lt_of_lt_of_le atL_w4 hb5.size
  have rs0_W5 := (hb5.cell rsL_w4).trans rs0_w4
  have rs1_W5 := (hb5.cell rsL_w4).trans rs1_w4
  have rsF_W5 : ∀ o, W5.frozen? ⟨w.heap.size + 1 + 1, o, none⟩ = false := fun o => (hb5.frozen rsL_w4).trans (rsF_w4 o)
  have rsL_W5 : w.heap.size + 1 + 1 < W5.heap.size := Nat.lt_of_lt_of_le rsL_w4 hb5.size
  have oP_W5 := hidP (OwnG.later oP_w4.out hb5)
  have oB_W5 := hidP (OwnG.later oB_w4.out hb5)
  have acc_W5 := hidP (acc_w4.out.trans (hb5.mono acc_w4.out.size))
  clear pbF_w4 pb0_w4 pb1_w4 pbL_w4 at0_w4 at1_w4 at2_w4 at3_w4 at4_w4 atL_w4 rsF_w4 rs0_w4 rs1_w4 rsL_w4 oP_w4 oB_w4 acc_w4 hb5 oB oS
  refine (HPO.out _ acc_W5.out).mono ?_
  rintro e w6 ⟨rfl, hb6⟩
  have pb0_w6 := (hb6.cell pbL_W5).trans pb0_W5
  have pb1_w6 := (hb6.cell pbL_W5).trans pb1_W5
  have pbF_w6 : ∀ o, w6.frozen? ⟨w.heap.size, o, none⟩ = false := fun o => (hb6.frozen pbL_W5).trans (pbF_W5 o)
  have pbL_w6 : w.heap.size < w6.heap.size := Nat.lt_of_lt_of_le pbL_W5 hb6.size
  have at0_w6 := (hb6.cell atL_W5).trans at0_W5
  have at1_w6 := (hb6.cell atL_W5).trans at1_W5
  have at2_w6 := (hb6.cell atL_W5).trans at2_W5
  have at3_w6 := (hb6.cell atL_W5).trans at3_W5
  have at4_w6 := (hb6.cell atL_W5).trans at4_W5
  have atL_w6 : w.heap.size + 1 < w6.heap.size := Nat.lt_of_lt_of_le atL_W5 hb6.size
  have rs0_w6 := (hb6.cell rsL_W5).trans rs0_W5
  have rs1_w6 := (hb6.cell rsL_W5).trans rs1_W5
  have rsF_w6 : ∀ o, w6.frozen? ⟨w.heap.size + 1 + 1, o, none⟩ = false := fun o => (hb6.frozen rsL_W5).trans (rsF_W5 o)
  have rsL_w6 : w.heap.size + 1 + 1 < w6.heap.size := Nat.lt_of_lt_of_le rsL_W5 hb6.size
  have ot0_w6 := (hb6.cell oL).trans o0
  have ot1_w6 := (hb6.cell oL).trans o1
  have otF_w6 : ∀ o, w6.frozen? ⟨w4.heap.size, o, none⟩ = false := fun o => (hb6.frozen oL).trans (oF o)
  have otL_w6 : w4.heap.size < w6.heap.size := Nat.lt_of_lt_of_le oL hb6.size
  have oP_w6 := hidP (OwnG.later oP_W5.out hb6)
  have oB_w6 := hidP (OwnG.later oB_W5.out hb6)
  have acc_w6 := hidP (acc_W5.out.trans (hb6.mono acc_W5.out.size))
  clear pbF_W5 pb0_W5 pb1_W5 pbL_W5 at0_W5 at1_W5 at2_W5 at3_W5 at4_W5 atL_W5 rsF_W5 rs0_W5 rs1_W5 rsL_W5 oF o0 o1 oL oP_W5 oB_W5 acc_W5 hb6
  go_wp2_with fail
  refine (HPk.out _).mono ?_
  rintro e w7 ⟨rfl, hb7⟩
  have pb0_w7 := (hb7.cell pbL_w6).trans pb0_w6
  have pb1_w7 := (hb7.cell pbL_w6).trans pb1_w6
  have pbF_w7 : ∀ o, w7.frozen? ⟨w.heap.size, o, none⟩ = false := fun o => (hb7.frozen pbL_w6).trans (pbF_w6 o)
  have pbL_w7 : w.heap.size < w7.heap.size := Nat.lt_of_lt_of_le pbL_w6 hb7.size
  have at0_w7 := (hb7.cell atL_w6).trans at0_w6
  have at1_w7 := (hb7.cell atL_w6).trans at1_w6
  have at2_w7 := (hb7.cell atL_w6).trans at2_w6
  have at3_w7 := (hb7.cell atL_w6).trans at3_w6
  have at4_w7 := (hb7.cell atL_w6).trans at4_w6
  have atL_w7 : w.heap.size + 1 < w7.heap.size := Nat.lt_of_lt_of_le atL_w6 hb7.size
  have rs0_w7 := (hb7.cell rsL_w6).trans rs0_w6
  have rs1_w7 := (hb7.cell rsL_w6).trans rs1_w6
  have rsF_w7 : ∀ o, w7.frozen? ⟨w.heap.size + 1 + 1, o, none⟩ = false := fun o => (hb7.frozen rsL_w6).trans (rsF_w6 o)
  have rsL_w7 : w.heap.size + 1 + 1 < w7.heap.size := Nat.lt_of_lt_of_le rsL_w6 hb7.size
  have ot0_w7 := (hb7.cell otL_w6).trans ot0_w6
  have ot1_w7 := (hb7.cell otL_w6).trans ot1_w6
  have otF_w7 : ∀ o, w7.frozen? ⟨w4.heap.size, o, none⟩ = false := fun o => (hb7.frozen otL_w6).trans (otF_w6 o)
  have otL_w7 : w4.heap.size < w7.heap.size := Nat.lt_of_lt_of_le otL_w6 hb7.size
  have oP_w7 := hidP (OwnG.later oP_w6.out hb7)
  have oB_w7 := hidP (OwnG.later oB_w6.out hb7)
  have acc_w7 := hidP (acc_w6.out.trans (hb7.mono acc_w6.out.size))
  clear pbF_w6 pb0_w6 pb1_w6 pbL_w6 at0_w6 at1_w6 at2_w6 at3_w6 at4_w6 atL_w6 rsF_w6 rs0_w6 rs1_w6 rsL_w6 otF_w6 ot0_w6 ot1_w6 otL_w6 oP_w6 oB_w6 acc_w6 hb7
  go_wp2_with fail
  refine bodyPost_ret (v := .tuple #[.agg #[.slice a np c, .slice b nb d], .int .i64 2]) (by simp [results, Try.results16, go_sem, rs0_w7, rs1_w7]) rfl ⟨_, _, _, _, rfl, (OwnG.set2 oP_w7.out kL9).mono (Nat.le_of_lt UL9), (OwnG.set2 oB_w7.out kL9).mono (Nat.le_of_lt UL9), HNE.out, below_set2 acc_w7.out (by omega)⟩

end Go.Proofs.Ythbpehpnikknlaa
