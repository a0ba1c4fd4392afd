/-
  slices: the merge of a sorted part with one behind it.
-/
import Derived.Test.YtgohffeneibhdaaSSymA
namespace Go.Proofs.Ytgohffeneibhdaa
open Go.RowKit

set_option maxRecDepth 10000 in
set_option maxHeartbeats 4000000 in
theorem symB (A : Pf → Prop) (c : Pf → Pf → Int) (ho : Ordr A c) (hc : Cmpr A c) (g n cap B : Nat) (p U q : List Pf) (y : Pf) (a m b : Nat) (ha : a = p.length) (hm : m = p.length + U.length) (hb : b = p.length + U.length + 1) (hU1 : U.length ≠ 1) (hyA : A y) (hA : ∀ z ∈ U, A z) (hU : Srt c U) (hn9 : n ≤ 1000000000) (w : World) (h : OwnR 55 w B (.slice (some ⟨g, 0, none⟩) n cap) (p ++ (U ++ (y :: q)))) :
    Calls Try.prog 90 #[.slice (some ⟨g, 0, none⟩) n cap, .int .i64 a, .int .i64 m, .int .i64 b, .func (.func 30) #[] #[]] w fun e w' => (∃ v, e = .returned v) ∧ (∃ R, R.Perm (U ++ [y]) ∧ Srt c R ∧ OwnR 55 w' B (.slice (some ⟨g, 0, none⟩) n cap) (p ++ (R ++ q))) ∧ w.grownBy w' (some g) := by
  have HO := hidP h
  have HOr := hidP ho
  have HC := hidP hc
  have HA := hidP (And.intro hyA hA)
  have HSt := hidP hU
  have hn : n = p.length + U.length + 1 + q.length := by rw [h.caps.1]; simp; omega
  have HF := hidP (And.intro ha (And.intro hm (And.intro hb hn)))
  have e0 : ¬ (m : Int) - (a : Int) = 1 := by omega
  have e1 : (b : Int) - (m : Int) = 1 := by omega
  have ham : a ≤ m := by omega
  have hmn : m < n := by omega
  have hbn : b ≤ n := by omega
  clear h ho hc hyA hA hU ha hm hb hn hU1
  go_enter Try.func90, Try.ntmps90
  go_wp2_with fail
  go_loopw [14, 15] (fun t14 t15 wr => ∃ (i j s t : Nat), t14 = .int .i64 i ∧ t15 = .int .i64 j ∧ i = a + s ∧ j = a + t ∧ s ≤ t ∧ t ≤ U.length ∧ (∀ z, 0 < s → U[s - 1]? = some z → ¬ c y z < 0) ∧ (∀ z, U[t]? = some z → c y z < 0) ∧ OwnR 55 wr B (.slice (some ⟨g, 0, none⟩) n cap) (p ++ (U ++ (y :: q))) ∧ w.grownBy wr (some g)) (fun t14 t15 _ => (intOf t15).toNat - (intOf t14).toNat)
  case atStart =>
    obtain ⟨f1, f2, f3, f4⟩ := HF.out
    refine ⟨a, m, 0, U.length, rfl, rfl, rfl, by omega, Nat.zero_le _, Nat.le_refl _, ?_, ?_, HO.out, World.grownBy.refl _ _⟩
    · intro z h0 _; omega
    · intro z hz; rw [List.getElem?_eq_none (Nat.le_refl _)] at hz; cases hz
  case round =>
    obtain ⟨i, j, s, t, rfl, rfl, hi, hj, hst, htV, hs, ht, hown, hgr⟩ := hrel
    have HH := hidP (And.intro hi (And.intro hj (And.intro hst (And.intro htV (And.intro hs ht)))))
    have HOw := hidP hown
    have HG := hidP hgr
    have hjm : j ≤ m := by have := HF.out; omega
    by_cases hlt : i < j
    · obtain ⟨z, hz⟩ : ∃ z : Int, (i : Int) + (j : Int) = z := ⟨_, rfl⟩
      obtain ⟨h, hh⟩ : ∃ h : Int, z / 2 = h := ⟨_, rfl⟩
      have hz0 : 0 ≤ z := by omega
      have hz9 : z ≤ 2000000000 := by omega
      have hh0 : 0 ≤ h := by omega
      have hhn : h < (n : Int) := by omega
      have hh9 : h ≤ 1000000000 := by omega
      have HZ := hidP (And.intro hz hh)
      clear hi hj hst htV hs ht hown hgr HO
      obtain ⟨zv, hzv⟩ : ∃ zv, U[h.toNat - a]? = some zv := ⟨_, List.getElem?_eq_getElem (by have h1 := HZ.out; have h2 := HH.out; omega)⟩
      have hzA : A zv := HA.out.2 zv (List.mem_of_getElem? hzv)
      have hF := HF.out
      have hZ := HZ.out
      have hH := HH.out
      have hmh : a ≤ h.toNat := by omega
      have hzl : h.toNat - a < U.length := by rcases Nat.lt_or_ge (h.toNat - a) U.length with h1 | h1; exact h1; rw [List.getElem?_eq_none h1] at hzv; cases hzv
      have eh : (p ++ (U ++ (y :: q)))[h.toNat]? = some zv := by
        rw [List.getElem?_append_right (by omega), show h.toNat - p.length = h.toNat - a by omega, List.getElem?_append_left hzl]; exact hzv
      have em : (p ++ (U ++ (y :: q)))[m]? = some y := by
        rw [List.getElem?_append_right (by omega), List.getElem?_append_right (by omega), show m - p.length - U.length = 0 by omega]; rfl
      obtain ⟨x0, x1, x2, x3⟩ := HOw.out.atk m y em
      obtain ⟨y0, y1, y2, y3⟩ := HOw.out.atk h.toNat zv eh
      have hgi := (HOw.out.lt g rfl).2
      have HK := hidP (HC.out y zv HA.out.1 hzA)
      have HZv := hidP (And.intro hzv hmh)
      clear hF hZ hH eh em hzv hzA hmh hzl
      go_wp2_with fail
      by_cases hcl : c y zv < 0
      · have dcl : decide (c y zv < 0) = true := decide_eq_true hcl
        refine wp_region_held_drew (S := (fun v => v.cell? ⟨g, m * 4, none⟩ = some (.bool y.s) ∧ v.cell? ⟨g, m * 4 + 1, none⟩ = some (.int .i64 y.H.toInt) ∧ v.cell? ⟨g, m * 4 + 2, none⟩ = some (.int .i64 y.L.toInt) ∧ v.cell? ⟨g, m * 4 + 3, none⟩ = some (.int .i64 y.b) ∧ v.cell? ⟨g, h.toNat * 4, none⟩ = some (.bool zv.s) ∧ v.cell? ⟨g, h.toNat * 4 + 1, none⟩ = some (.int .i64 zv.H.toInt) ∧ v.cell? ⟨g, h.toNat * 4 + 2, none⟩ = some (.int .i64 zv.L.toInt) ∧ v.cell? ⟨g, h.toNat * 4 + 3, none⟩ = some (.int .i64 zv.b))) (by kernel_rfl) ?_ (fun hHeld => ?_)
        · try dsimp only
          exact keepS (Below.refl _ _).drew hgi ⟨x0, x1, x2, x3, y0, y1, y2, y3⟩
        refine wpAnyH_take (i := 0) (oi := ⟨some 92, _, _, _, _, _⟩) (v := ?_) rfl (by kernel_rfl) (by kernel_rfl) (by kernel_rfl) (fun _ _ _ h => h) (Or.inl ⟨by rfl, ?_⟩) (by assumption) ?_
        rotate_left
        · intro w hSw
          try dsimp only at hSw
          go_simp
          try with_reducible rfl
        simp only [Act.put, List.setIfInBounds_toArray, List.set_cons_zero, List.set_cons_succ]
        refine wpAnyH_take (i := 1) (oi := ⟨some 93, _, _, _, _, _⟩) (v := ?_) rfl (by kernel_rfl) (by kernel_rfl) (by kernel_rfl) (fun _ _ _ h => h) (Or.inl ⟨by rfl, ?_⟩) (by assumption) ?_
        rotate_left
        · intro w hSw
          try dsimp only at hSw
          go_simp
          try with_reducible rfl
        simp only [Act.put, List.setIfInBounds_toArray, List.set_cons_zero, List.set_cons_succ]
        refine wpAnyH_take (i := 2) (oi := ⟨some 94, _, _, _, _, _⟩) (v := ?_) rfl (by kernel_rfl) (by kernel_rfl) (by kernel_rfl) (fun _ _ _ h => h) (Or.inl ⟨by rfl, ?_⟩) (by assumption) ?_
        rotate_left
        · intro w hSw
          try dsimp only at hSw
          go_simp
          try with_reducible rfl
        simp only [Act.put, List.setIfInBounds_toArray, List.set_cons_zero, List.set_cons_succ]
        refine wpAnyH_take (i := 3) (oi := ⟨some 95, _, _, _, _, _⟩) (v := ?_) rfl (by kernel_rfl) (by kernel_rfl) (by kernel_rfl) (fun _ _ _ h => h) (Or.inl ⟨by rfl, ?_⟩) (by assumption) ?_
        rotate_left
        · intro w hSw
          try dsimp only at hSw
          go_simp
          try with_reducible rfl
        simp only [Act.put, List.setIfInBounds_toArray, List.set_cons_zero, List.set_cons_succ]
        refine wpAnyH_take (i := 4) (oi := ⟨some 96, _, _, _, _, _⟩) (v := ?_) rfl (by kernel_rfl) (by kernel_rfl) (by kernel_rfl) (fun _ _ _ h => h) (Or.inl ⟨by rfl, ?_⟩) (by assumption) ?_
        rotate_left
        · intro w hSw
          try dsimp only at hSw
          go_simp
          try with_reducible rfl
        simp only [Act.put, List.setIfInBounds_toArray, List.set_cons_zero, List.set_cons_succ]
        refine wpAnyH_take (i := 5) (oi := ⟨some 97, _, _, _, _, _⟩) (v := ?_) rfl (by kernel_rfl) (by kernel_rfl) (by kernel_rfl) (fun _ _ _ h => h) (Or.inl ⟨by rfl, ?_⟩) (by assumption) ?_
        rotate_left
        · intro w hSw
          try dsimp only at hSw
          go_simp
          try with_reducible rfl
        simp only [Act.put, List.setIfInBounds_toArray, List.set_cons_zero, List.set_cons_succ]
        refine wpAnyH_take (i := 6) (oi := ⟨some 98, _, _, _, _, _⟩) (v := ?_) rfl (by kernel_rfl) (by kernel_rfl) (by kernel_rfl) (fun _ _ _ h => h) (Or.inl ⟨by rfl, ?_⟩) (by assumption) ?_
        rotate_left
        · intro w hSw
          try dsimp only at hSw
          go_simp
          try with_reducible rfl
        simp only [Act.put, List.setIfInBounds_toArray, List.set_cons_zero, List.set_cons_succ]
        refine wpAnyH_take (i := 7) (oi := ⟨some 99, _, _, _, _, _⟩) (v := ?_) rfl (by kernel_rfl) (by kernel_rfl) (by kernel_rfl) (fun _ _ _ h => h) (Or.inl ⟨by rfl, ?_⟩) (by assumption) ?_
        rotate_left
        · intro w hSw
          try dsimp only at hSw
          go_simp
          try with_reducible rfl
        simp only [Act.put, List.setIfInBounds_toArray, List.set_cons_zero, List.set_cons_succ]
        refine wpAnyH_take (i := 8) (oi := ⟨some 100, _, _, _, _, _⟩) (v := ?_) rfl (by kernel_rfl) (by kernel_rfl) (by kernel_rfl) (fun _ _ _ h => h) (Or.inl ⟨by rfl, ?_⟩) (by assumption) ?_
        rotate_left
        · intro w hSw
          try dsimp only at hSw
          go_simp
          try with_reducible rfl
        simp only [Act.put, List.setIfInBounds_toArray, List.set_cons_zero, List.set_cons_succ]
        refine wpAnyH_ready (rs := [9]) (by kernel_rfl) (by simp) ?_
        refine AllReadyH.cons rfl (fun K hK => ?_) AllReadyH.nil
        go_simp
        go_wp2_with (first | (go_at_call 30; refine (HK.out _).mono ?_; rintro e w2 ⟨rfl, hb2⟩; have hr2 : Below wr.heap.size wr w2 := (Below.refl _ wr).drew.trans (hb2.mono (by simp))))
        refine hK.out _ _ ?_ (fun hHeld => ?_)
        · try dsimp only
          exact keepS hr2 hgi ⟨x0, x1, x2, x3, y0, y1, y2, y3⟩
        clear hK K
        refine wpAnyH_take (i := 10) (oi := ⟨some 102, _, _, _, _, _⟩) (v := ?_) rfl (by kernel_rfl) (by kernel_rfl) (by kernel_rfl) (fun _ _ _ h => h) (Or.inl ⟨by rfl, ?_⟩) (by assumption) ?_
        rotate_left
        · intro w hSw
          try dsimp only at hSw
          go_simp
          try with_reducible rfl
        simp only [Act.put, List.setIfInBounds_toArray, List.set_cons_zero, List.set_cons_succ]
        refine wpAnyH_take (i := 11) (oi := ⟨some 103, _, _, _, _, _⟩) (v := ?_) rfl (by kernel_rfl) (by kernel_rfl) (by kernel_rfl) (fun _ _ _ h => h) (Or.inl ⟨by rfl, ?_⟩) (by assumption) ?_
        rotate_left
        · intro w hSw
          try dsimp only at hSw
          go_simp
          try with_reducible rfl
        simp only [Act.put, List.setIfInBounds_toArray, List.set_cons_zero, List.set_cons_succ]
        refine wpAnyH_done (by kernel_rfl) ?_ _
        have HO2 := hidP (HOw.out.later hr2)
        have HG2 := hidP (HG.out.trans (below_grown' hr2 _))
        clear hr2 x0 x1 x2 x3 y0 y1 y2 y3 hHeld hb2
        go_wp2_with fail
        go_roundw
        case rel =>
          obtain ⟨f1, f2, f3, f4, f5, f6⟩ := HH.out
          obtain ⟨v1, v2⟩ := HZv.out
          have hZ := HZ.out
          refine ⟨i, rfl, h.toNat, by omega, s, f1, h.toNat - a, by omega, by omega, by omega, f5, ?_, HO2.out, HG2.out⟩
          intro z hz
          rw [v1] at hz
          cases hz
          exact hcl
        case measure => have hZ := HZ.out; simp [intOf]; omega
      · have dcl : decide (c y zv < 0) = false := decide_eq_false hcl
        refine wp_region_held_drew (S := (fun v => v.cell? ⟨g, m * 4, none⟩ = some (.bool y.s) ∧ v.cell? ⟨g, m * 4 + 1, none⟩ = some (.int .i64 y.H.toInt) ∧ v.cell? ⟨g, m * 4 + 2, none⟩ = some (.int .i64 y.L.toInt) ∧ v.cell? ⟨g, m * 4 + 3, none⟩ = some (.int .i64 y.b) ∧ v.cell? ⟨g, h.toNat * 4, none⟩ = some (.bool zv.s) ∧ v.cell? ⟨g, h.toNat * 4 + 1, none⟩ = some (.int .i64 zv.H.toInt) ∧ v.cell? ⟨g, h.toNat * 4 + 2, none⟩ = some (.int .i64 zv.L.toInt) ∧ v.cell? ⟨g, h.toNat * 4 + 3, none⟩ = some (.int .i64 zv.b))) (by kernel_rfl) ?_ (fun hHeld => ?_)
        · try dsimp only
          exact keepS (Below.refl _ _).drew hgi ⟨x0, x1, x2, x3, y0, y1, y2, y3⟩
        refine wpAnyH_take (i := 0) (oi := ⟨some 92, _, _, _, _, _⟩) (v := ?_) rfl (by kernel_rfl) (by kernel_rfl) (by kernel_rfl) (fun _ _ _ h => h) (Or.inl ⟨by rfl, ?_⟩) (by assumption) ?_
        rotate_left
        · intro w hSw
          try dsimp only at hSw
          go_simp
          try with_reducible rfl
        simp only [Act.put, List.setIfInBounds_toArray, List.set_cons_zero, List.set_cons_succ]
        refine wpAnyH_take (i := 1) (oi := ⟨some 93, _, _, _, _, _⟩) (v := ?_) rfl (by kernel_rfl) (by kernel_rfl) (by kernel_rfl) (fun _ _ _ h => h) (Or.inl ⟨by rfl, ?_⟩) (by assumption) ?_
        rotate_left
        · intro w hSw
          try dsimp only at hSw
          go_simp
          try with_reducible rfl
        simp only [Act.put, List.setIfInBounds_toArray, List.set_cons_zero, List.set_cons_succ]
        refine wpAnyH_take (i := 2) (oi := ⟨some 94, _, _, _, _, _⟩) (v := ?_) rfl (by kernel_rfl) (by kernel_rfl) (by kernel_rfl) (fun _ _ _ h => h) (Or.inl ⟨by rfl, ?_⟩) (by assumption) ?_
        rotate_left
        · intro w hSw
          try dsimp only at hSw
          go_simp
          try with_reducible rfl
        simp only [Act.put, List.setIfInBounds_toArray, List.set_cons_zero, List.set_cons_succ]
        refine wpAnyH_take (i := 3) (oi := ⟨some 95, _, _, _, _, _⟩) (v := ?_) rfl (by kernel_rfl) (by kernel_rfl) (by kernel_rfl) (fun _ _ _ h => h) (Or.inl ⟨by rfl, ?_⟩) (by assumption) ?_
        rotate_left
        · intro w hSw
          try dsimp only at hSw
          go_simp
          try with_reducible rfl
        simp only [Act.put, List.setIfInBounds_toArray, List.set_cons_zero, List.set_cons_succ]
        refine wpAnyH_take (i := 4) (oi := ⟨some 96, _, _, _, _, _⟩) (v := ?_) rfl (by kernel_rfl) (by kernel_rfl) (by kernel_rfl) (fun _ _ _ h => h) (Or.inl ⟨by rfl, ?_⟩) (by assumption) ?_
        rotate_left
        · intro w hSw
          try dsimp only at hSw
          go_simp
          try with_reducible rfl
        simp only [Act.put, List.setIfInBounds_toArray, List.set_cons_zero, List.set_cons_succ]
        refine wpAnyH_take (i := 5) (oi := ⟨some 97, _, _, _, _, _⟩) (v := ?_) rfl (by kernel_rfl) (by kernel_rfl) (by kernel_rfl) (fun _ _ _ h => h) (Or.inl ⟨by rfl, ?_⟩) (by assumption) ?_
        rotate_left
        · intro w hSw
          try dsimp only at hSw
          go_simp
          try with_reducible rfl
        simp only [Act.put, List.setIfInBounds_toArray, List.set_cons_zero, List.set_cons_succ]
        refine wpAnyH_take (i := 6) (oi := ⟨some 98, _, _, _, _, _⟩) (v := ?_) rfl (by kernel_rfl) (by kernel_rfl) (by kernel_rfl) (fun _ _ _ h => h) (Or.inl ⟨by rfl, ?_⟩) (by assumption) ?_
        rotate_left
        · intro w hSw
          try dsimp only at hSw
          go_simp
          try with_reducible rfl
        simp only [Act.put, List.setIfInBounds_toArray, List.set_cons_zero, List.set_cons_succ]
        refine wpAnyH_take (i := 7) (oi := ⟨some 99, _, _, _, _, _⟩) (v := ?_) rfl (by kernel_rfl) (by kernel_rfl) (by kernel_rfl) (fun _ _ _ h => h) (Or.inl ⟨by rfl, ?_⟩) (by assumption) ?_
        rotate_left
        · intro w hSw
          try dsimp only at hSw
          go_simp
          try with_reducible rfl
        simp only [Act.put, List.setIfInBounds_toArray, List.set_cons_zero, List.set_cons_succ]
        refine wpAnyH_take (i := 8) (oi := ⟨some 100, _, _, _, _, _⟩) (v := ?_) rfl (by kernel_rfl) (by kernel_rfl) (by kernel_rfl) (fun _ _ _ h => h) (Or.inl ⟨by rfl, ?_⟩) (by assumption) ?_
        rotate_left
        · intro w hSw
          try dsimp only at hSw
          go_simp
          try with_reducible rfl
        simp only [Act.put, List.setIfInBounds_toArray, List.set_cons_zero, List.set_cons_succ]
        refine wpAnyH_ready (rs := [9]) (by kernel_rfl) (by simp) ?_
        refine AllReadyH.cons rfl (fun K hK => ?_) AllReadyH.nil
        go_simp
        go_wp2_with (first | (go_at_call 30; refine (HK.out _).mono ?_; rintro e w2 ⟨rfl, hb2⟩; have hr2 : Below wr.heap.size wr w2 := (Below.refl _ wr).drew.trans (hb2.mono (by simp))))
        refine hK.out _ _ ?_ (fun hHeld => ?_)
        · try dsimp only
          exact keepS hr2 hgi ⟨x0, x1, x2, x3, y0, y1, y2, y3⟩
        clear hK K
        refine wpAnyH_take (i := 10) (oi := ⟨some 102, _, _, _, _, _⟩) (v := ?_) rfl (by kernel_rfl) (by kernel_rfl) (by kernel_rfl) (fun _ _ _ h => h) (Or.inl ⟨by rfl, ?_⟩) (by assumption) ?_
        rotate_left
        · intro w hSw
          try dsimp only at hSw
          go_simp
          try with_reducible rfl
        simp only [Act.put, List.setIfInBounds_toArray, List.set_cons_zero, List.set_cons_succ]
        refine wpAnyH_take (i := 11) (oi := ⟨some 103, _, _, _, _, _⟩) (v := ?_) rfl (by kernel_rfl) (by kernel_rfl) (by kernel_rfl) (fun _ _ _ h => h) (Or.inl ⟨by rfl, ?_⟩) (by assumption) ?_
        rotate_left
        · intro w hSw
          try dsimp only at hSw
          go_simp
          try with_reducible rfl
        simp only [Act.put, List.setIfInBounds_toArray, List.set_cons_zero, List.set_cons_succ]
        refine wpAnyH_done (by kernel_rfl) ?_ _
        have HO2 := hidP (HOw.out.later hr2)
        have HG2 := hidP (HG.out.trans (below_grown' hr2 _))
        clear hr2 x0 x1 x2 x3 y0 y1 y2 y3 hHeld hb2
        go_wp2_with fail
        go_roundw
        case rel =>
          obtain ⟨f1, f2, f3, f4, f5, f6⟩ := HH.out
          obtain ⟨v1, v2⟩ := HZv.out
          have hZ := HZ.out
          refine ⟨h.toNat + 1, by omega, j, rfl, h.toNat - a + 1, by omega, t, f2, by omega, f4, ?_, f6, HO2.out, HG2.out⟩
          intro z h0 hz
          rw [Nat.add_sub_cancel, v1] at hz
          cases hz
          exact hcl
        case measure => have hZ := HZ.out; simp [intOf]; omega
    · have hst' : s = t := by omega
      have HE := hidP (And.intro hi hst')
      have him : i ≤ m := by have := HF.out; omega
      clear hi hj hst htV hs ht hown hgr HO hst'
      go_wp2_with fail
      go_loopw [17] (fun t17 wk => ∃ (K d : Nat), t17 = .int .i64 K ∧ K = a + d ∧ s ≤ d ∧ d ≤ U.length ∧ OwnR 55 wk B (.slice (some ⟨g, 0, none⟩) n cap) (p ++ (U.take d ++ (y :: (U.drop d ++ q)))) ∧ w.grownBy wk (some g)) (fun t17 _ => (intOf t17).toNat)
      case atStart => exact ⟨m, U.length, rfl, by have := HF.out; omega, by have := HH.out; omega, Nat.le_refl _, by simpa using HOw.out, HG.out⟩
      case round =>
        obtain ⟨K, d, rfl, hK, hds, hdU, hown, hgr⟩ := hrel
        have HOk := hidP hown
        have HGk := hidP hgr
        by_cases hlt2 : i < K
        · have hH := HH.out
          have hF := HF.out
          have hE := HE.out
          obtain ⟨d', hd'⟩ : ∃ d', d = d' + 1 := ⟨d - 1, by omega⟩
          subst hd'
          have hxd : U.drop d' = U[d'] :: U.drop (d' + 1) := List.drop_eq_getElem_cons _
          have htd : U.take (d' + 1) = U.take d' ++ [U[d']] := List.take_succ_eq_append_getElem _
          generalize U[d'] = x at *
          have e2 : p ++ (U.take (d' + 1) ++ (y :: (U.drop (d' + 1) ++ q))) = (p ++ U.take d') ++ x :: ([] ++ y :: (U.drop (d' + 1) ++ q)) := by rw [htd]; simp
          rw [e2] at hown
          obtain ⟨J, hJ⟩ : ∃ J, J + 1 = K := ⟨K - 1, by omega⟩
          obtain ⟨-, ⟨x0, x1, x2, x3⟩, ⟨y0, y1, y2, y3⟩, hf, -⟩ := hown.swap J K (by rw [List.length_append, List.length_take]; omega) (by rw [List.length_append, List.length_take]; simp; omega)
          have HS := hidP (hown.swapR J K (by rw [List.length_append, List.length_take]; omega) (by rw [List.length_append, List.length_take]; simp; omega))
          have HT := hidP (And.intro hxd hK)
          have f0 := hf (J * 4)
          have f1 := hf (J * 4 + 1)
          have f2 := hf (J * 4 + 2)
          have f3 := hf (J * 4 + 3)
          have k0 := hf (K * 4)
          have k1 := hf (K * 4 + 1)
          have k2 := hf (K * 4 + 2)
          have k3 := hf (K * 4 + 3)
          have hKn : K < n := by omega
          have hJn : J < n := by omega
          have hJK : J < K := by omega
          have hJi : (K : Int) - 1 = (J : Int) := by omega
          have HJ := hidP hJ
          have HD := hidP (And.intro hds hdU)
          clear hH hF hE hxd htd e2 hown hgr hf hJ hK hds hdU
          go_wp2_with fail
          go_region
          all_goals
            go_wp2_with fail
            go_roundw
            case rel =>
              obtain ⟨r1, r2⟩ := HT.out
              have r3 := HJ.out
              have r4 := HE.out
              have r5 := HD.out
              refine ⟨J, d', rfl, by omega, by omega, by omega, ?_, ((HGk.out.trans grown_four).trans grown_four).trans grown_drew⟩
              have h := HS.out.drewR
              rw [r1]
              simpa using h
            case measure => have r3 := HJ.out; simp [intOf]; omega
        · have hds' : d = s := by have := HE.out; omega
          subst hds'
          have hF : ∃ R, R.Perm (U ++ [y]) ∧ Srt c R ∧ OwnR 55 wr B (.slice (some ⟨g, 0, none⟩) n cap) (p ++ (R ++ q)) := by
            obtain ⟨f1, f2, f3, f4, f5, f6⟩ := HH.out
            have hE := HE.out.2
            refine ⟨U.take d ++ y :: U.drop d, ?_, srt_cut HOr.out HA.out.1 HA.out.2 HSt.out d (by omega) (fun z h0 hz => by have := f5 z h0 hz; omega) (fun z hz => HOr.out.asym y z HA.out.1 (HA.out.2 z (List.mem_of_getElem? hz)) (f6 z (by rw [← hE]; exact hz))), by simpa using hown⟩
            refine List.perm_middle.trans ?_
            rw [List.take_append_drop]
            exact (List.perm_append_singleton y U).symm
          have HFi := hidP hF
          clear hF hown hgr hK hds hdU
          go_wp2_with fail
          exact bodyPost_ret (v := .tuple #[]) (by simp [results, Try.results90]) rfl ⟨⟨_, rfl⟩, HFi.out, HGk.out⟩

end Go.Proofs.Ytgohffeneibhdaa
