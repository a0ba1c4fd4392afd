/-
  slices: two of a row are swapped; a range of a row is swapped with another one; a row is rotated.
-/
import Derived.Test.YtgohffeneibhdaaPTo
namespace Go.Proofs.Ytgohffeneibhdaa
open Go.RowKit

theorem set_mid {α : Type} (u v : List α) (x y : α) : (u ++ x :: v).set u.length y = u ++ y :: v := by
  rw [List.set_append_right _ _ (Nat.le_refl _), Nat.sub_self, List.set_cons_zero]
theorem swap_list {α : Type} (u v z : List α) (x y : α) (i j : Nat) (hi : i = u.length) (hj : j = u.length + 1 + v.length) : ((u ++ x :: (v ++ y :: z)).set i y).set j x = u ++ y :: (v ++ x :: z) := by
  subst hi
  rw [set_mid]
  have e : u ++ y :: (v ++ y :: z) = (u ++ y :: v) ++ y :: z := by simp
  have e2 : u ++ y :: (v ++ x :: z) = (u ++ y :: v) ++ x :: z := by simp
  have hl : j = (u ++ y :: v).length := by simp [hj]; omega
  rw [e, e2, hl, set_mid]

/-- What a swap of two of a row of one's own wants and leaves. -/
theorem OwnR.swap {t : TypeId} {w : World} {B g n cap : Nat} {u v z : List Pf} {x y : Pf} (h : OwnR t w B (.slice (some ⟨g, 0, none⟩) n cap) (u ++ x :: (v ++ y :: z))) (i j : Nat) (hi : i = u.length) (hj : j = u.length + 1 + v.length) :
    n = u.length + 1 + v.length + 1 + z.length ∧
    (w.cell? ⟨g, i * 4, none⟩ = some (.bool x.s) ∧ w.cell? ⟨g, i * 4 + 1, none⟩ = some (.int .i64 x.H.toInt) ∧ w.cell? ⟨g, i * 4 + 2, none⟩ = some (.int .i64 x.L.toInt) ∧ w.cell? ⟨g, i * 4 + 3, none⟩ = some (.int .i64 x.b)) ∧
    (w.cell? ⟨g, j * 4, none⟩ = some (.bool y.s) ∧ w.cell? ⟨g, j * 4 + 1, none⟩ = some (.int .i64 y.H.toInt) ∧ w.cell? ⟨g, j * 4 + 2, none⟩ = some (.int .i64 y.L.toInt) ∧ w.cell? ⟨g, j * 4 + 3, none⟩ = some (.int .i64 y.b)) ∧
    (∀ k, w.frozen? ⟨g, k, none⟩ = false) ∧
    OwnR t ((((((((w.setCell ⟨g, i * 4, none⟩ (.bool y.s)).setCell ⟨g, i * 4 + 1, none⟩ (.int .i64 y.H.toInt)).setCell ⟨g, i * 4 + 2, none⟩ (.int .i64 y.L.toInt)).setCell ⟨g, i * 4 + 3, none⟩ (.int .i64 y.b)).setCell ⟨g, j * 4, none⟩ (.bool x.s)).setCell ⟨g, j * 4 + 1, none⟩ (.int .i64 x.H.toInt)).setCell ⟨g, j * 4 + 2, none⟩ (.int .i64 x.L.toInt)).setCell ⟨g, j * 4 + 3, none⟩ (.int .i64 x.b)) B (.slice (some ⟨g, 0, none⟩) n cap) (u ++ y :: (v ++ x :: z)) := by
  have hn : n = (u ++ x :: (v ++ y :: z)).length := h.caps.1
  have hn' : n = u.length + 1 + v.length + 1 + z.length := by rw [hn]; simp; omega
  have hx : (u ++ x :: (v ++ y :: z))[i]? = some x := by subst hi; simp
  have hy : (u ++ x :: (v ++ y :: z))[j]? = some y := by
    have e : u ++ x :: (v ++ y :: z) = (u ++ x :: v) ++ y :: z := by simp
    rw [e, List.getElem?_append_right (by simp [hj]; omega)]
    have : j - (u ++ x :: v).length = 0 := by simp [hj]; omega
    rw [this]; rfl
  obtain ⟨p1, o1, q1, e1, _, f1, a0, a1, a2, a3⟩ := h.row i (by omega)
  obtain ⟨p2, o2, q2, e2, _, f2, b0, b1, b2, b3⟩ := h.row j (by omega)
  cases e1
  cases e2
  rw [hx] at f1
  rw [hy] at f2
  cases f1
  cases f2
  rw [Nat.zero_add] at a0 a1 a2 a3 b0 b1 b2 b3
  have s1 := (h.put hn i (by omega)).2 y
  have s2 := (s1.put (by rw [List.length_set]; exact hn) j (by omega)).2 x
  rw [swap_list u v z x y i j hi hj] at s2
  exact ⟨hn', ⟨a0, a1, a2, a3⟩, ⟨b0, b1, b2, b3⟩, fun k => World.ownsRow.frozenAt (n := (u ++ x :: (v ++ y :: z)).length) (hn ▸ h) k, s2⟩
/-- The same with the stores the other way round. -/
theorem OwnR.swapR {t : TypeId} {w : World} {B g n cap : Nat} {u v z : List Pf} {x y : Pf} (h : OwnR t w B (.slice (some ⟨g, 0, none⟩) n cap) (u ++ x :: (v ++ y :: z))) (i j : Nat) (hi : i = u.length) (hj : j = u.length + 1 + v.length) :
    OwnR t ((((((((w.setCell ⟨g, j * 4, none⟩ (.bool x.s)).setCell ⟨g, j * 4 + 1, none⟩ (.int .i64 x.H.toInt)).setCell ⟨g, j * 4 + 2, none⟩ (.int .i64 x.L.toInt)).setCell ⟨g, j * 4 + 3, none⟩ (.int .i64 x.b)).setCell ⟨g, i * 4, none⟩ (.bool y.s)).setCell ⟨g, i * 4 + 1, none⟩ (.int .i64 y.H.toInt)).setCell ⟨g, i * 4 + 2, none⟩ (.int .i64 y.L.toInt)).setCell ⟨g, i * 4 + 3, none⟩ (.int .i64 y.b)) B (.slice (some ⟨g, 0, none⟩) n cap) (u ++ y :: (v ++ x :: z)) := by
  have hn : n = (u ++ x :: (v ++ y :: z)).length := h.caps.1
  have hn' : n = u.length + 1 + v.length + 1 + z.length := by rw [hn]; simp; omega
  have s1 := (h.put hn j (by omega)).2 x
  have s2 := (s1.put (by rw [List.length_set]; exact hn) i (by omega)).2 y
  rw [List.set_comm _ _ (show j ≠ i by omega), swap_list u v z x y i j hi hj] at s2
  exact s2
theorem OwnR.drewR {t : TypeId} {w : World} {B : Nat} {v : Value} {ps : List Pf} (h : OwnR t w B v ps) : OwnR t w.drew B v ps := h.later (Below.refl _ w).drew
theorem grown_drew {w : World} {r : Option Nat} : w.grownBy w.drew r := ⟨rfl, rfl, rfl, Nat.le_refl _, fun _ _ _ => rfl⟩
theorem grown_four {w : World} {g a b c d : Nat} {v0 v1 v2 v3 : Value} : w.grownBy ((((w.setCell ⟨g, a, none⟩ v0).setCell ⟨g, b, none⟩ v1).setCell ⟨g, c, none⟩ v2).setCell ⟨g, d, none⟩ v3) (some g) := by
  have h : ∀ (w : World) (o : Nat) (v : Value), w.grownBy (w.setCell ⟨g, o, none⟩ v) (some g) := fun w o v => ⟨rfl, rfl, rfl, by simp, fun k _ hk => heap_setCell_other w ⟨g, o, none⟩ k v (fun e => hk (by simp [e]))⟩
  exact (((h _ _ _).trans (h _ _ _)).trans (h _ _ _)).trans (h _ _ _)

set_option maxRecDepth 10000 in
set_option maxHeartbeats 2000000 in
theorem swapRange_any (cmp : Value) (g n cap B : Nat) (p X m Y q : List Pf) (a b k : Nat) (ha : a = p.length) (hk : k = X.length) (hk' : k = Y.length) (hb : b = p.length + X.length + m.length) (hn9 : n ≤ 1000000000) (w : World) (h : OwnR 55 w B (.slice (some ⟨g, 0, none⟩) n cap) (p ++ (X ++ (m ++ (Y ++ q))))) :
    Calls Try.prog 98 #[.slice (some ⟨g, 0, none⟩) n cap, .int .i64 a, .int .i64 b, .int .i64 k, cmp] w fun e w' => (∃ v, e = .returned v) ∧ OwnR 55 w' B (.slice (some ⟨g, 0, none⟩) n cap) (p ++ (Y ++ (m ++ (X ++ q)))) ∧ w.grownBy w' (some g) := by
  have HO := hidP h
  have HA := hidP ha
  have HK := hidP hk
  have HK' := hidP hk'
  have HBb := hidP hb
  have hn : n = p.length + X.length + m.length + Y.length + q.length := by rw [h.caps.1]; simp; omega
  have hlen : a + k ≤ b ∧ b + k ≤ n := by omega
  clear h ha hk hk' hb hn
  go_enter Try.func98, Try.ntmps98
  go_wp2_with fail
  go_loopw [10] (fun t10 wr => ∃ i : Nat, i ≤ k ∧ t10 = .int .i64 i ∧ OwnR 55 wr B (.slice (some ⟨g, 0, none⟩) n cap) (p ++ (Y.take i ++ (X.drop i ++ (m ++ (X.take i ++ (Y.drop i ++ q)))))) ∧ w.grownBy wr (some g)) (fun t10 _ => k - (intOf t10).toNat)
  case atStart => exact ⟨0, Nat.zero_le _, rfl, by simpa using HO.out, World.grownBy.refl _ _⟩
  case round =>
    obtain ⟨i, hi, rfl, hown, hgr⟩ := hrel
    by_cases hlt : i < k
    · have hx : X.drop i = X[i]'(by rw [← HK.out]; exact hlt) :: X.drop (i + 1) := List.drop_eq_getElem_cons _
      have hy : Y.drop i = Y[i]'(by rw [← HK'.out]; exact hlt) :: Y.drop (i + 1) := List.drop_eq_getElem_cons _
      have tx : X.take (i + 1) = X.take i ++ [X[i]'(by rw [← HK.out]; exact hlt)] := List.take_succ_eq_append_getElem _
      have ty : Y.take (i + 1) = Y.take i ++ [Y[i]'(by rw [← HK'.out]; exact hlt)] := List.take_succ_eq_append_getElem _
      generalize X[i]'(by rw [← HK.out]; exact hlt) = x at *
      generalize Y[i]'(by rw [← HK'.out]; exact hlt) = y at *
      obtain ⟨I, hI⟩ : ∃ I : Nat, I = a + i := ⟨_, rfl⟩
      obtain ⟨J, hJ⟩ : ∃ J : Nat, J = b + i := ⟨_, rfl⟩
      have e1 : p ++ (Y.take i ++ (X.drop i ++ (m ++ (X.take i ++ (Y.drop i ++ q))))) = (p ++ Y.take i) ++ x :: ((X.drop (i + 1) ++ (m ++ X.take i)) ++ y :: (Y.drop (i + 1) ++ q)) := by rw [hx, hy]; simp
      have e2 : (p ++ Y.take i) ++ y :: ((X.drop (i + 1) ++ (m ++ X.take i)) ++ x :: (Y.drop (i + 1) ++ q)) = p ++ (Y.take (i + 1) ++ (X.drop (i + 1) ++ (m ++ (X.take (i + 1) ++ (Y.drop (i + 1) ++ q))))) := by rw [tx, ty]; simp
      rw [e1] at hown
      have l1 := HK.out
      have l2 := HK'.out
      have l3 := HA.out
      have l4 := HBb.out
      obtain ⟨-, ⟨x0, x1, x2, x3⟩, ⟨y0, y1, y2, y3⟩, hf, hs⟩ := hown.swap I J (by rw [List.length_append, List.length_take]; omega) (by simp only [List.length_append, List.length_take, List.length_drop]; omega)
      rw [e2] at hs
      have HS := hidP hs
      have HG := hidP hgr
      have f0 := hf (I * 4)
      have f1 := hf (I * 4 + 1)
      have f2 := hf (I * 4 + 2)
      have f3 := hf (I * 4 + 3)
      have k0 := hf (J * 4)
      have k1 := hf (J * 4 + 1)
      have k2 := hf (J * 4 + 2)
      have k3 := hf (J * 4 + 3)
      have hIJ : I < J := by omega
      have hJn : J < n := by omega
      have hIn : I < n := by omega
      have hIi : (a : Int) + (i : Int) = (I : Int) := by omega
      have hJi : (b : Int) + (i : Int) = (J : Int) := by omega
      clear hown hgr hs hf e1 e2 hx hy tx ty l1 l2 l3 l4 hI hJ HO
      go_wp2_with fail
      go_region
      all_goals
        go_wp2_with fail
        go_roundw
        case rel => exact ⟨i + 1, by omega, by go_num, HS.out.drewR, ((HG.out.trans grown_four).trans grown_four).trans grown_drew⟩
        case measure => simp [intOf]; omega
    · have hik : i = k := by omega
      subst hik
      have HF : Hid (OwnR 55 wr B (.slice (some ⟨g, 0, none⟩) n cap) (p ++ (Y ++ (m ++ (X ++ q))))) := by
        refine hidP ?_
        have l1 := HK.out
        have l2 := HK'.out
        rw [List.take_of_length_le (l := Y) (by omega), List.take_of_length_le (l := X) (by omega), List.drop_of_length_le (l := X) (by omega), List.drop_of_length_le (l := Y) (by omega)] at hown
        simpa using hown
      have HG := hidP hgr
      clear hown hgr HO
      go_wp2
      exact bodyPost_end (v := .tuple #[]) (by simp [results, Try.results98]) rfl ⟨⟨_, rfl⟩, HF.out, HG.out⟩

end Go.Proofs.Ytgohffeneibhdaa
