/-
  slices: two of a row are swapped; a range of a row is swapped with another one; a row is rotated.
-/
import Derived.Test.YtgohffeneibhdaaPTo
namespace Go.Proofs.Ytgohffeneibhdaa
open Go.RowKit

theorem set_mid {α : Type} (u v : List α) (x y : α) : (u ++ x :: v).set u.length y = u ++ y :: v := by
  rw [List.set_append_right _ _ (Nat.le_refl _), Nat.sub_self, List.set_cons_zero]
theorem swap_list {α : Type} (u v z : List α) (x y : α) (i j : Nat) (hi : i = u.length) (hj : j = u.length + 1 + v.length) : ((u ++ x :: (v ++ y :: z)).set i y).set j x = u ++ y :: (v ++ x :: z) := by
  subst hi
  rw [set_mid]
  have e : u ++ y :: (v ++ y :: z) = (u ++ y :: v) ++ y :: z := by simp
  have e2 : u ++ y :: (v ++ x :: z) = (u ++ y :: v) ++ x :: z := by simp
  have hl : j = (u ++ y :: v).length := by simp [hj]; omega
  rw [e, e2, hl, set_mid]

/-- What a swap of two of a row of one's own wants and leaves. -/
theorem OwnR.swap {t : TypeId} {w : World} {B g n cap : Nat} {u v z : List Pf} {x y : Pf} (h : OwnR t w B (.slice (some ⟨g, 0, none⟩) n cap) (u ++ x :: (v ++ y :: z))) (i j : Nat) (hi : i = u.length) (hj : j = u.length + 1 + v.length) :
    n = u.length + 1 + v.length + 1 + z.length ∧
    (w.cell? ⟨g, i * 4, none⟩ = some (.bool x.s) ∧ w.cell? ⟨g, i * 4 + 1, none⟩ = some (.int .i64 x.H.toInt) ∧ w.cell? ⟨g, i * 4 + 2, none⟩ = some (.int .i64 x.L.toInt) ∧ w.cell? ⟨g, i * 4 + 3, none⟩ = some (.int .i64 x.b)) ∧
    (w.cell? ⟨g, j * 4, none⟩ = some (.bool y.s) ∧ w.cell? ⟨g, j * 4 + 1, none⟩ = some (.int .i64 y.H.toInt) ∧ w.cell? ⟨g, j * 4 + 2, none⟩ = some (.int .i64 y.L.toInt) ∧ w.cell? ⟨g, j * 4 + 3, none⟩ = some (.int .i64 y.b)) ∧
    (∀ k, w.frozen? ⟨g, k, none⟩ = false) ∧
    OwnR t ((((((((w.setCell ⟨g, i * 4, none⟩ (.bool y.s)).setCell ⟨g, i * 4 + 1, none⟩ (.int .i64 y.H.toInt)).setCell ⟨g, i * 4 + 2, none⟩ (.int .i64 y.L.toInt)).setCell ⟨g, i * 4 + 3, none⟩ (.int .i64 y.b)).setCell ⟨g, j * 4, none⟩ (.bool x.s)).setCell ⟨g, j * 4 + 1, none⟩ (.int .i64 x.H.toInt)).setCell ⟨g, j * 4 + 2, none⟩ (.int .i64 x.L.toInt)).setCell ⟨g, j * 4 + 3, none⟩ (.int .i64 x.b)) B (.slice (some ⟨g, 0, none⟩) n cap) (u ++ y :: (v ++ x :: z)) := by
  have hn : n = (u ++ x :: (v ++ y :: z)).length := h.caps.1
  have hn' : n = u.length + 1 + v.length + 1 + z.length := by rw [hn]; simp; omega
  have hx : (u ++ x :: (v ++ y :: z))[i]? = some x := by subst hi; simp
  have hy : (u ++ x :: (v ++ y :: z))[j]? = some y := by
    have e : u ++ x :: (v ++ y :: z) = (u ++ x :: v) ++ y :: z := by simp
    rw [e, List.getElem?_append_right (by simp [hj]; omega)]
    have : j - (u ++ x :: v).length = 0 := by simp [hj]; omega
    rw [this]; rfl
  obtain ⟨p1, o1, q1, e1, _, f1, a0, a1, a2, a3⟩ := h.row i (by omega)
  obtain ⟨p2, o2, q2, e2, _, f2, b0, b1, b2, b3⟩ := h.row j (by omega)
  cases e1
  cases e2
  rw [hx] at f1
  rw [hy] at f2
  cases f1
  cases f2
  rw [Nat.zero_add] at a0 a1 a2 a3 b0 b1 b2 b3
  have s1 := (h.put hn i (by omega)).2 y
  have s2 := (s1.put (by rw [List.length_set]; exact hn) j (by omega)).2 x
  rw [swap_list u v z x y i j hi hj] at s2
  exact ⟨hn', ⟨a0, a1, a2, a3⟩, ⟨b0, b1, b2, b3⟩, fun k => World.ownsRow.frozenAt (n := (u ++ x :: (v ++ y :: z)).length) (hn ▸ h) k, s2⟩
/-- The same with the stores the other way round. -/
theorem OwnR.swapR {t : TypeId} {w : World} {B g n cap : Nat} {u v z : List Pf} {x y : Pf} (h : OwnR t w B (.slice (some ⟨g, 0, none⟩) n cap) (u ++ x :: (v ++ y :: z))) (i j : Nat) (hi : i = u.length) (hj : j = u.length + 1 + v.length) :
    OwnR t ((((((((w.setCell ⟨g, j * 4, none⟩ (.bool x.s)).setCell ⟨g, j * 4 + 1, none⟩ (.int .i64 x.H.toInt)).setCell ⟨g, j * 4 + 2, none⟩ (.int .i64 x.L.toInt)).setCell ⟨g, j * 4 + 3, none⟩ (.int .i64 x.b)).setCell ⟨g, i * 4, none⟩ (.bool y.s)).setCell ⟨g, i * 4 + 1, none⟩ (.int .i64 y.H.toInt)).setCell ⟨g, i * 4 + 2, none⟩ (.int .i64 y.L.toInt)).setCell ⟨g, i * 4 + 3, none⟩ (.int .i64 y.b)) B (.slice (some ⟨g, 0, none⟩) n cap) (u ++ y :: (v ++ x :: z)) := by
  have hn : n = (u ++ x :: (v ++ y :: z)).length := h.caps.1
  have hn' : n = u.length + 1 + v.length + 1 + z.length := by rw [hn]; simp; omega
  have s1 := (h.put hn j (by omega)).2 x
  have s2 := (s1.put (by rw [List.length_set]; exact hn) i (by omega)).2 y
  rw [List.set_comm _ _ (show j ≠ i by omega), swap_list u v z x y i j hi hj] at s2
  exact s2
theorem OwnR.drewR {t : TypeId} {w : World} {B : Nat} {v : Value} {ps : List Pf} (h : OwnR t w B v ps) : OwnR t w.drew B v ps := h.later (Below.refl _ w).drew
theorem grown_drew {w : World} {r : Option Nat} : w.grownBy w.drew r := ⟨rfl, rfl, rfl, Nat.le_refl _, fun _ _ _ => rfl⟩
theorem grown_four {w : World} {g a b c d : Nat} {v0 v1 v2 v3 : Value} : w.grownBy ((((w.setCell ⟨g, a, none⟩ v0).setCell ⟨g, b, none⟩ v1).setCell ⟨g, c, none⟩ v2).setCell ⟨g, d, none⟩ v3) (some g) := by
  have h : ∀ (w : World) (o : Nat) (v : Value), w.grownBy (w.setCell ⟨g, o, none⟩ v) (some g) := fun w o v => ⟨rfl, rfl, rfl, by simp, fun k _ hk => heap_setCell_other w ⟨g, o, none⟩ k v (fun e => hk (by simp [e]))⟩
  exact (((h _ _ _).trans (h _ _ _)).trans (h _ _ _)).trans (h _ _ _)

set_option maxRecDepth 10000 in
set_option maxHeartbeats 2000000 in
theorem swapRange_any (cmp : Value) (g n cap B : Nat) (p X m Y q : List Pf) (a b k : Nat) (ha : a = p.length) (hk : k = X.length) (hk' : k = Y.length) (hb : b = p.length + X.length + m.length) (hn9 : n ≤ 1000000000) (w : World) (h : OwnR 55 w B (.slice (some ⟨g, 0, none⟩) n cap) (p ++ (X ++ (m ++ (Y ++ q))))) :
    Calls Try.prog 98 #[.slice (some ⟨g, 0, none⟩) n cap, .int .i64 a, .int .i64 b, .int .i64 k, cmp] w fun e w' => (∃ v, e = .returned v) ∧ OwnR 55 w' B (.slice (some ⟨g, 0, none⟩) n cap) (p ++ (Y ++ (m ++ (X ++ q)))) ∧ w.grownBy w' (some g) := by
  have HO := hidP h
  have HA := hidP ha
  have HK := hidP hk
  have HK' := hidP hk'
  have HBb := hidP hb
  have hn : n = p.length + X.length + m.length + Y.length + q.length := by rw [h.caps.1]; simp; omega
  have hlen : a + k ≤ b ∧ b + k ≤ n := by omega
  clear h ha hk hk' hb hn
  go_enter Try.func98, Try.ntmps98
  go_wp2_with fail
  go_loopw [10] (fun t10 wr => ∃ i : Nat, i ≤ k ∧ t10 = .int .i64 i ∧ OwnR 55 wr B (.slice (some ⟨g, 0, none⟩) n cap) (p ++ (Y.take i ++ (X.drop i ++ (m ++ (X.take i ++ (Y.drop i ++ q)))))) ∧ w.grownBy wr (some g)) (fun t10 _ => k - (intOf t10).toNat)
  case atStart => exact ⟨0, Nat.zero_le _, rfl, by simpa using HO.out, World.grownBy.refl _ _⟩
  case round =>
    obtain ⟨i, hi, rfl, hown, hgr⟩ := hrel
    by_cases hlt : i < k
    · have hx : X.drop i = X[i]'(by rw [← HK.out]; exact hlt) :: X.drop (i + 1) := List.drop_eq_getElem_cons _
      have hy : Y.drop i = Y[i]'(by rw [← HK'.out]; exact hlt) :: Y.drop (i + 1) := List.drop_eq_getElem_cons _
      have tx : X.take (i + 1) = X.take i ++ [X[i]'(by rw [← HK.out]; exact hlt)] := List.take_succ_eq_append_getElem _
      have ty : Y.take (i + 1) = Y.take i ++ [Y[i]'(by rw [← HK'.out]; exact hlt)] := List.take_succ_eq_append_getElem _
      generalize X[i]'(by rw [← HK.out]; exact hlt) = x at *
      generalize Y[i]'(by rw [← HK'.out]; exact hlt) = y at *
      obtain ⟨I, hI⟩ : ∃ I : Nat, I = a + i := ⟨_, rfl⟩
      obtain ⟨J, hJ⟩ : ∃ J : Nat, J = b + i := ⟨_, rfl⟩
      have e1 : p ++ (Y.take i ++ (X.drop i ++ (m ++ (X.take i ++ (Y.drop i ++ q))))) = (p ++ Y.take i) ++ x :: ((X.drop (i + 1) ++ (m ++ X.take i)) ++ y :: (Y.drop (i + 1) ++ q)) := by rw [hx, hy]; simp
      have e2 : (p ++ Y.take i) ++ y :: ((X.drop (i + 1) ++ (m ++ X.take i)) ++ x :: (Y.drop (i + 1) ++ q)) = p ++ (Y.take (i + 1) ++ (X.drop (i + 1) ++ (m ++ (X.take (i + 1) ++ (Y.drop (i + 1) ++ q))))) := by rw [tx, ty]; simp
      rw [e1] at hown
      have l1 := HK.out
      have l2 := HK'.out
      have l3 := HA.out
      have l4 := HBb.out
      obtain ⟨-, ⟨x0, x1, x2, x3⟩, ⟨y0, y1, y2, y3⟩, hf, hs⟩ := hown.swap I J (by rw [List.length_append, List.length_take]; omega) (by simp only [List.length_append, List.length_take, List.length_drop]; omega)
      rw [e2] at hs
      have HS := hidP hs
      have HG := hidP hgr
      have f0 := hf (I * 4)
      have f1 := hf (I * 4 + 1)
      have f2 := hf (I * 4 + 2)
      have f3 := hf (I * 4 + 3)
      have k0 := hf (J * 4)
      have k1 := hf (J * 4 + 1)
      have k2 := hf (J * 4 + 2)
      have k3 := hf (J * 4 + 3)
      have hIJ : I < J := by omega
      have hJn : J < n := by omega
      have hIn : I < n := by omega
      have hIi : (a : Int) + (i : Int) = (I : Int) := by omega
      have hJi : (b : Int) + (i : Int) = (J : Int) := by omega
      clear hown hgr hs hf e1 e2 hx hy tx ty l1 l2 l3 l4 hI hJ HO
      go_wp2_with fail
      go_region
      all_goals
        go_wp2_with fail
        go_roundw
        case rel => exact ⟨i + 1, by omega, by go_num, HS.out.drewR, ((HG.out.trans grown_four).trans grown_four).trans grown_drew⟩
        case measure => simp [intOf]; omega
    · have hik : i = k := by omega
      subst hik
      have HF : Hid (OwnR 55 wr B (.slice (some ⟨g, 0, none⟩) n cap) (p ++ (Y ++ (m ++ (X ++ q))))) := by
        refine hidP ?_
        have l1 := HK.out
        have l2 := HK'.out
        rw [List.take_of_length_le (l := Y) (by omega), List.take_of_length_le (l := X) (by omega), List.drop_of_length_le (l := X) (by omega), List.drop_of_length_le (l := Y) (by omega)] at hown
        simpa using hown
      have HG := hidP hgr
      clear hown hgr HO
      go_wp2
      exact bodyPost_end (v := .tuple #[]) (by simp [results, Try.results98]) rfl ⟨⟨_, rfl⟩, HF.out, HG.out⟩

end Go.Proofs.Ytgohffeneibhdaa

namespace Go.Proofs.Ytgohffeneibhdaa
open Go.RowKit

theorem td {α : Type} (j : Nat) (U Z : List α) : U.take j ++ (U.drop j ++ Z) = U ++ Z := by rw [← List.append_assoc, List.take_append_drop]

set_option maxRecDepth 10000 in
set_option maxHeartbeats 2000000 in
theorem rotate_any (cmp : Value) (g n cap B : Nat) (p X Y q : List Pf) (a m b : Nat) (ha : a = p.length) (hm : m = p.length + X.length) (hb : b = p.length + X.length + Y.length) (hX : 0 < X.length) (hY : 0 < Y.length) (hn9 : n ≤ 1000000000) (w : World) (h : OwnR 55 w B (.slice (some ⟨g, 0, none⟩) n cap) (p ++ (X ++ (Y ++ q)))) :
    Calls Try.prog 96 #[.slice (some ⟨g, 0, none⟩) n cap, .int .i64 a, .int .i64 m, .int .i64 b, cmp] w fun e w' => (∃ v, e = .returned v) ∧ OwnR 55 w' B (.slice (some ⟨g, 0, none⟩) n cap) (p ++ (Y ++ (X ++ q))) ∧ w.grownBy w' (some g) := by
  have HO := hidP h
  have hn : n = p.length + X.length + Y.length + q.length := by rw [h.caps.1]; simp; omega
  have hm9 : m ≤ 1000000000 := by omega
  obtain ⟨i0, hi0⟩ : ∃ i0, i0 = X.length := ⟨_, rfl⟩
  obtain ⟨j0, hj0⟩ : ∃ j0, j0 = Y.length := ⟨_, rfl⟩
  have e1 : (m : Int) - (a : Int) = (i0 : Int) := by omega
  have e2 : (b : Int) - (m : Int) = (j0 : Int) := by omega
  have hi9 : i0 ≤ 1000000000 := by omega
  have hj9 : j0 ≤ 1000000000 := by omega
  have HF := hidP (And.intro hm (And.intro hi0 (And.intro hj0 (And.intro hX (And.intro hY hn)))))
  have hb9 : b ≤ 1000000000 := by omega
  have ha9 : a ≤ 1000000000 := by omega
  clear h ha hm hb hX hY hn hi0 hj0
  go_enter Try.func96, Try.ntmps96
  go_wp2_with fail
  go_loopw [10, 11] (fun t10 t11 wr => ∃ (i j : Nat) (P U V Q : List Pf), t10 = .int .i64 i ∧ t11 = .int .i64 j ∧ i = U.length ∧ j = V.length ∧ m = P.length + U.length ∧ 0 < U.length ∧ 0 < V.length ∧ n = P.length + U.length + V.length + Q.length ∧ OwnR 55 wr B (.slice (some ⟨g, 0, none⟩) n cap) (P ++ (U ++ (V ++ Q))) ∧ P ++ (V ++ (U ++ Q)) = p ++ (Y ++ (X ++ q)) ∧ w.grownBy wr (some g)) (fun t10 t11 _ => (intOf t10).toNat + (intOf t11).toNat)
  case atStart =>
    obtain ⟨f1, f2, f3, f4, f5, f6⟩ := HF.out
    exact ⟨i0, j0, p, X, Y, q, rfl, rfl, f2, f3, f1, f4, f5, f6, HO.out, rfl, World.grownBy.refl _ _⟩
  case round =>
    obtain ⟨i, j, P, U, V, Q, rfl, rfl, hi, hj, hm, hU, hV, hn, hown, hT, hgr⟩ := hrel
    obtain ⟨mi, hmi⟩ : ∃ mi, mi = P.length := ⟨_, rfl⟩
    have hi1 : 0 < i := by omega
    have hj1 : 0 < j := by omega
    have hin : i ≤ 1000000000 := by omega
    have hjn : j ≤ 1000000000 := by omega
    have q1 : (m : Int) - (i : Int) = (mi : Int) := by omega
    have hmi9 : mi ≤ 1000000000 := by omega
    have HW := hidP (And.intro hi (And.intro hj (And.intro hm (And.intro hU (And.intro hV (And.intro hn hmi))))))
    have HOw := hidP hown
    have HT := hidP hT
    have HG := hidP hgr
    clear hi hj hm hU hV hn hmi hown hT hgr HO HF
    by_cases hij : i = j
    · subst hij
      have key := fun (wx : World) (h : OwnR 55 wx B (.slice (some ⟨g, 0, none⟩) n cap) (P ++ (U ++ ([] ++ (V ++ Q))))) => swapRange_any cmp g n cap B P U [] V Q mi m i HW.out.2.2.2.2.2.2 HW.out.1 HW.out.2.1 (by have := HW.out.2.2.1; simp; omega) hn9 wx h
      have HK := hidP key
      clear key
      have d0 : ((i : Int) != (i : Int)) = false := by simp
      go_wp2_with fail
      refine (HK.out _ HOw.out).mono ?_
      rintro e w2 ⟨⟨v, rfl⟩, ho2, hg2⟩
      rw [List.nil_append, HT.out] at ho2
      have HO2 := hidP ho2
      have HG2 := hidP (HG.out.trans hg2)
      clear ho2 hg2
      go_wp2_with fail
      exact bodyPost_end (v := .tuple #[]) (by simp [results, Try.results96]) rfl ⟨⟨_, rfl⟩, HO2.out, HG2.out⟩
    · have d0 : ((i : Int) != (j : Int)) = true := by rw [bne_iff_ne]; omega
      by_cases hgt : j < i
      · have key := fun (wx : World) (h : OwnR 55 wx B (.slice (some ⟨g, 0, none⟩) n cap) (P ++ (U.take j ++ (U.drop j ++ (V ++ Q))))) => swapRange_any cmp g n cap B P (U.take j) (U.drop j) V Q mi m j HW.out.2.2.2.2.2.2 (by have := HW.out.1; rw [List.length_take]; omega) HW.out.2.1 (by have := HW.out; rw [List.length_take, List.length_drop]; omega) hn9 wx h
        have HK := hidP key
        have hown' : OwnR 55 wr B (.slice (some ⟨g, 0, none⟩) n cap) (P ++ (U.take j ++ (U.drop j ++ (V ++ Q)))) := by
          rw [td]; exact HOw.out
        have HOw' := hidP hown'
        clear key hown'
        obtain ⟨d, hd⟩ : ∃ d, d = i - j := ⟨_, rfl⟩
        have q2 : (i : Int) - (j : Int) = (d : Int) := by omega
        have hd1 : 0 < d := by omega
        have HD := hidP hd
        clear hd
        go_wp2_with fail
        refine (HK.out _ HOw'.out).mono ?_
        rintro e w2 ⟨⟨v, rfl⟩, ho2, hg2⟩
        have HO2 := hidP ho2
        have HG2 := hidP (HG.out.trans hg2)
        clear ho2 hg2
        go_wp2_with fail
        go_roundw
        case rel =>
          obtain ⟨f1, f2, f3, f4, f5, f6, f7⟩ := HW.out
          have f8 := HD.out
          refine ⟨d, j, P ++ V, U.drop j, U.take j, Q, rfl, rfl, by rw [List.length_drop]; omega, by rw [List.length_take]; omega, by rw [List.length_append, List.length_drop]; omega, by rw [List.length_drop]; omega, by rw [List.length_take]; omega, by rw [List.length_append, List.length_drop, List.length_take]; omega, ?_, ?_, HG2.out⟩
          · have h := HO2.out; rw [← List.append_assoc P V] at h; exact h
          · rw [← HT.out, td, List.append_assoc]
        case measure => have := HD.out; simp [intOf]; omega
      · have hlt : i < j := by omega
        obtain ⟨d, hd⟩ : ∃ d, d = j - i := ⟨_, rfl⟩
        obtain ⟨r, hr⟩ : ∃ r, r = m + d := ⟨_, rfl⟩
        have hr9 : m + j ≤ 1000000000 := by have := HW.out; omega
        have q2 : (j : Int) - (i : Int) = (d : Int) := by omega
        have q3 : (m : Int) + (j : Int) - (i : Int) = (r : Int) := by omega
        have key := fun (wx : World) (h : OwnR 55 wx B (.slice (some ⟨g, 0, none⟩) n cap) (P ++ (U ++ (V.take d ++ (V.drop d ++ Q))))) => swapRange_any cmp g n cap B P U (V.take d) (V.drop d) Q mi r i HW.out.2.2.2.2.2.2 HW.out.1 (by have := HW.out; rw [List.length_drop]; omega) (by have := HW.out; rw [List.length_take]; omega) hn9 wx h
        have HK := hidP key
        have hown' : OwnR 55 wr B (.slice (some ⟨g, 0, none⟩) n cap) (P ++ (U ++ (V.take d ++ (V.drop d ++ Q)))) := by
          rw [td]; exact HOw.out
        have HOw' := hidP hown'
        have hd1 : 0 < d := by omega
        have HD := hidP hd
        clear key hown' hd hr
        go_wp2_with fail
        refine (HK.out _ HOw'.out).mono ?_
        rintro e w2 ⟨⟨v, rfl⟩, ho2, hg2⟩
        have HO2 := hidP ho2
        have HG2 := hidP (HG.out.trans hg2)
        clear ho2 hg2
        go_wp2_with fail
        go_roundw
        case rel =>
          obtain ⟨f1, f2, f3, f4, f5, f6, f7⟩ := HW.out
          have f8 := HD.out
          refine ⟨i, d, P, V.drop d, V.take d, U ++ Q, rfl, rfl, by rw [List.length_drop]; omega, by rw [List.length_take]; omega, by rw [List.length_drop]; omega, by rw [List.length_drop]; omega, by rw [List.length_take]; omega, by rw [List.length_append, List.length_drop, List.length_take]; omega, HO2.out, ?_, HG2.out⟩
          rw [← HT.out, td]
        case measure => have := HD.out; simp [intOf]; omega

end Go.Proofs.Ytgohffeneibhdaa
