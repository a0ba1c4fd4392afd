/-
  slices: a row is rotated: two parts of it change their places.
-/
import Derived.Test.YtgohffeneibhdaaSSwap
namespace Go.Proofs.Ytgohffeneibhdaa
open Go.RowKit

theorem td {α : Type} (j : Nat) (U Z : List α) : U.take j ++ (U.drop j ++ Z) = U ++ Z := by rw [← List.append_assoc, List.take_append_drop]

set_option maxRecDepth 10000 in
set_option maxHeartbeats 2000000 in
theorem rotate_any (cmp : Value) (g n cap B : Nat) (p X Y q : List Pf) (a m b : Nat) (ha : a = p.length) (hm : m = p.length + X.length) (hb : b = p.length + X.length + Y.length) (hX : 0 < X.length) (hY : 0 < Y.length) (hn9 : n ≤ 1000000000) (w : World) (h : OwnR 55 w B (.slice (some ⟨g, 0, none⟩) n cap) (p ++ (X ++ (Y ++ q)))) :
    Calls Try.prog 96 #[.slice (some ⟨g, 0, none⟩) n cap, .int .i64 a, .int .i64 m, .int .i64 b, cmp] w fun e w' => (∃ v, e = .returned v) ∧ OwnR 55 w' B (.slice (some ⟨g, 0, none⟩) n cap) (p ++ (Y ++ (X ++ q))) ∧ w.grownBy w' (some g) := by
  have HO := hidP h
  have hn : n = p.length + X.length + Y.length + q.length := by rw [h.caps.1]; simp; omega
  have hm9 : m ≤ 1000000000 := by omega
  obtain ⟨i0, hi0⟩ : ∃ i0, i0 = X.length := ⟨_, rfl⟩
  obtain ⟨j0, hj0⟩ : ∃ j0, j0 = Y.length := ⟨_, rfl⟩
  have e1 : (m : Int) - (a : Int) = (i0 : Int) := by omega
  have e2 : (b : Int) - (m : Int) = (j0 : Int) := by omega
  have hi9 : i0 ≤ 1000000000 := by omega
  have hj9 : j0 ≤ 1000000000 := by omega
  have HF := hidP (And.intro hm (And.intro hi0 (And.intro hj0 (And.intro hX (And.intro hY hn)))))
  have hb9 : b ≤ 1000000000 := by omega
  have ha9 : a ≤ 1000000000 := by omega
  clear h ha hm hb hX hY hn hi0 hj0
  go_enter Try.func96, Try.ntmps96
  go_wp2_with fail
  go_loopw [10, 11] (fun t10 t11 wr => ∃ (i j : Nat) (P U V Q : List Pf), t10 = .int .i64 i ∧ t11 = .int .i64 j ∧ i = U.length ∧ j = V.length ∧ m = P.length + U.length ∧ 0 < U.length ∧ 0 < V.length ∧ n = P.length + U.length + V.length + Q.length ∧ OwnR 55 wr B (.slice (some ⟨g, 0, none⟩) n cap) (P ++ (U ++ (V ++ Q))) ∧ P ++ (V ++ (U ++ Q)) = p ++ (Y ++ (X ++ q)) ∧ w.grownBy wr (some g)) (fun t10 t11 _ => (intOf t10).toNat + (intOf t11).toNat)
  case atStart =>
    obtain ⟨f1, f2, f3, f4, f5, f6⟩ := HF.out
    exact ⟨i0, j0, p, X, Y, q, rfl, rfl, f2, f3, f1, f4, f5, f6, HO.out, rfl, World.grownBy.refl _ _⟩
  case round =>
    obtain ⟨i, j, P, U, V, Q, rfl, rfl, hi, hj, hm, hU, hV, hn, hown, hT, hgr⟩ := hrel
    obtain ⟨mi, hmi⟩ : ∃ mi, mi = P.length := ⟨_, rfl⟩
    have hi1 : 0 < i := by omega
    have hj1 : 0 < j := by omega
    have hin : i ≤ 1000000000 := by omega
    have hjn : j ≤ 1000000000 := by omega
    have q1 : (m : Int) - (i : Int) = (mi : Int) := by omega
    have hmi9 : mi ≤ 1000000000 := by omega
    have HW := hidP (And.intro hi (And.intro hj (And.intro hm (And.intro hU (And.intro hV (And.intro hn hmi))))))
    have HOw := hidP hown
    have HT := hidP hT
    have HG := hidP hgr
    clear hi hj hm hU hV hn hmi hown hT hgr HO HF
    by_cases hij : i = j
    · subst hij
      have key := fun (wx : World) (h : OwnR 55 wx B (.slice (some ⟨g, 0, none⟩) n cap) (P ++ (U ++ ([] ++ (V ++ Q))))) => swapRange_any cmp g n cap B P U [] V Q mi m i HW.out.2.2.2.2.2.2 HW.out.1 HW.out.2.1 (by have := HW.out.2.2.1; simp; omega) hn9 wx h
      have HK := hidP key
      clear key
      have d0 : ((i : Int) != (i : Int)) = false := by simp
      go_wp2_with fail
      refine (HK.out _ HOw.out).mono ?_
      rintro e w2 ⟨⟨v, rfl⟩, ho2, hg2⟩
      rw [List.nil_append, HT.out] at ho2
      have HO2 := hidP ho2
      have HG2 := hidP (HG.out.trans hg2)
      clear ho2 hg2
      go_wp2_with fail
      exact bodyPost_end (v := .tuple #[]) (by simp [results, Try.results96]) rfl ⟨⟨_, rfl⟩, HO2.out, HG2.out⟩
    · have d0 : ((i : Int) != (j : Int)) = true := by rw [bne_iff_ne]; omega
      by_cases hgt : j < i
      · have key := fun (wx : World) (h : OwnR 55 wx B (.slice (some ⟨g, 0, none⟩) n cap) (P ++ (U.take j ++ (U.drop j ++ (V ++ Q))))) => swapRange_any cmp g n cap B P (U.take j) (U.drop j) V Q mi m j HW.out.2.2.2.2.2.2 (by have := HW.out.1; rw [List.length_take]; omega) HW.out.2.1 (by have := HW.out; rw [List.length_take, List.length_drop]; omega) hn9 wx h
        have HK := hidP key
        have hown' : OwnR 55 wr B (.slice (some ⟨g, 0, none⟩) n cap) (P ++ (U.take j ++ (U.drop j ++ (V ++ Q)))) := by
          rw [td]; exact HOw.out
        have HOw' := hidP hown'
        clear key hown'
        obtain ⟨d, hd⟩ : ∃ d, d = i - j := ⟨_, rfl⟩
        have q2 : (i : Int) - (j : Int) = (d : Int) := by omega
        have hd1 : 0 < d := by omega
        have HD := hidP hd
        clear hd
        go_wp2_with fail
        refine (HK.out _ HOw'.out).mono ?_
        rintro e w2 ⟨⟨v, rfl⟩, ho2, hg2⟩
        have HO2 := hidP ho2
        have HG2 := hidP (HG.out.trans hg2)
        clear ho2 hg2
        go_wp2_with fail
        go_roundw
        case rel =>
          obtain ⟨f1, f2, f3, f4, f5, f6, f7⟩ := HW.out
          have f8 := HD.out
          refine ⟨d, j, P ++ V, U.drop j, U.take j, Q, rfl, rfl, by rw [List.length_drop]; omega, by rw [List.length_take]; omega, by rw [List.length_append, List.length_drop]; omega, by rw [List.length_drop]; omega, by rw [List.length_take]; omega, by rw [List.length_append, List.length_drop, List.length_take]; omega, ?_, ?_, HG2.out⟩
          · have h := HO2.out; rw [← List.append_assoc P V] at h; exact h
          · rw [← HT.out, td, List.append_assoc]
        case measure => have := HD.out; simp [intOf]; omega
      · have hlt : i < j := by omega
        obtain ⟨d, hd⟩ : ∃ d, d = j - i := ⟨_, rfl⟩
        obtain ⟨r, hr⟩ : ∃ r, r = m + d := ⟨_, rfl⟩
        have hr9 : m + j ≤ 1000000000 := by have := HW.out; omega
        have q2 : (j : Int) - (i : Int) = (d : Int) := by omega
        have q3 : (m : Int) + (j : Int) - (i : Int) = (r : Int) := by omega
        have key := fun (wx : World) (h : OwnR 55 wx B (.slice (some ⟨g, 0, none⟩) n cap) (P ++ (U ++ (V.take d ++ (V.drop d ++ Q))))) => swapRange_any cmp g n cap B P U (V.take d) (V.drop d) Q mi r i HW.out.2.2.2.2.2.2 HW.out.1 (by have := HW.out; rw [List.length_drop]; omega) (by have := HW.out; rw [List.length_take]; omega) hn9 wx h
        have HK := hidP key
        have hown' : OwnR 55 wr B (.slice (some ⟨g, 0, none⟩) n cap) (P ++ (U ++ (V.take d ++ (V.drop d ++ Q)))) := by
          rw [td]; exact HOw.out
        have HOw' := hidP hown'
        have hd1 : 0 < d := by omega
        have HD := hidP hd
        clear key hown' hd hr
        go_wp2_with fail
        refine (HK.out _ HOw'.out).mono ?_
        rintro e w2 ⟨⟨v, rfl⟩, ho2, hg2⟩
        have HO2 := hidP ho2
        have HG2 := hidP (HG.out.trans hg2)
        clear ho2 hg2
        go_wp2_with fail
        go_roundw
        case rel =>
          obtain ⟨f1, f2, f3, f4, f5, f6, f7⟩ := HW.out
          have f8 := HD.out
          refine ⟨i, d, P, V.drop d, V.take d, U ++ Q, rfl, rfl, by rw [List.length_drop]; omega, by rw [List.length_take]; omega, by rw [List.length_drop]; omega, by rw [List.length_drop]; omega, by rw [List.length_take]; omega, by rw [List.length_append, List.length_drop, List.length_take]; omega, HO2.out, ?_, HG2.out⟩
          rw [← HT.out, td]
        case measure => have := HD.out; simp [intOf]; omega

end Go.Proofs.Ytgohffeneibhdaa
