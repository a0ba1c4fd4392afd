/-
  slices: the merge of one with a sorted part behind it.
-/
import Derived.Test.YtgohffeneibhdaaSIns
namespace Go.Proofs.Ytgohffeneibhdaa
open Go.RowKit

theorem OwnR.atk {t : TypeId} {w : World} {B g n cap : Nat} {ps : List Pf} (h : OwnR t w B (.slice (some ⟨g, 0, none⟩) n cap) ps) (k : Nat) (y : Pf) (hk : ps[k]? = some y) :
    w.cell? ⟨g, k * 4, none⟩ = some (.bool y.s) ∧ w.cell? ⟨g, k * 4 + 1, none⟩ = some (.int .i64 y.H.toInt) ∧ w.cell? ⟨g, k * 4 + 2, none⟩ = some (.int .i64 y.L.toInt) ∧ w.cell? ⟨g, k * 4 + 3, none⟩ = some (.int .i64 y.b) := by
  have hl : k < ps.length := by rcases Nat.lt_or_ge k ps.length with h1 | h1; exact h1; rw [List.getElem?_eq_none h1] at hk; cases hk
  obtain ⟨p1, o1, q1, e1, _, f1, a0, a1, a2, a3⟩ := h.row k hl
  cases e1
  rw [hk] at f1
  cases f1
  rw [Nat.zero_add] at a0 a1 a2 a3
  exact ⟨a0, a1, a2, a3⟩
/-- One that is put where it belongs among sorted ones. -/
theorem srt_cut {A : Pf → Prop} {c : Pf → Pf → Int} (ho : Ordr A c) {V : List Pf} {x : Pf} (hx : A x) (hA : ∀ y ∈ V, A y) (hV : Srt c V) (s : Nat) (hsV : s ≤ V.length) (h1 : ∀ z, 0 < s → V[s - 1]? = some z → ¬ c x z < 0) (h2 : ∀ z, V[s]? = some z → ¬ c z x < 0) : Srt c (V.take s ++ x :: V.drop s) := by
  unfold Srt at *
  have hV' : (V.take s ++ V.drop s).Pairwise fun x y => ¬ c y x < 0 := by rw [List.take_append_drop]; exact hV
  rw [List.pairwise_append] at hV' ⊢
  obtain ⟨s1, s2, s3⟩ := hV'
  have hd : ∀ z ∈ V.drop s, ¬ c z x < 0 := fun z hz => by
    cases hD : V.drop s with
    | nil => rw [hD] at hz; cases hz
    | cons f r =>
      have hf : V[s]? = some f := by rw [← List.head?_drop, hD]; rfl
      rw [hD] at hz s2
      rcases List.mem_cons.1 hz with rfl | hz
      · exact h2 _ hf
      · exact ho.thru x f z hx (hA f (List.mem_of_mem_drop (by rw [hD]; exact List.mem_cons_self ..))) (hA z (List.mem_of_mem_drop (by rw [hD]; exact List.mem_cons_of_mem _ hz))) (h2 _ hf) ((List.pairwise_cons.1 s2).1 z hz)
  have htk : ∀ z ∈ V.take s, ¬ c x z < 0 := by
    intro z hz
    rcases List.eq_nil_or_concat (V.take s) with hT | ⟨T, l, hT⟩
    · rw [hT] at hz; cases hz
    · have hT' : V.take s = T ++ [l] := by simpa using hT
      have hs0 : 0 < s := by rcases Nat.eq_zero_or_pos s with h | h; subst h; simp at hT'; exact h
      have hl : V[s - 1]? = some l := by
        have e1 : (V.take s).length = T.length + 1 := by rw [hT']; simp
        rw [List.length_take] at e1
        have e2 : (V.take s)[s - 1]? = some l := by
          rw [hT', List.getElem?_append_right (by omega), show s - 1 - T.length = 0 by omega]; rfl
        rw [List.getElem?_take, if_pos (by omega)] at e2
        exact e2
      rw [hT'] at hz s1
      rw [List.pairwise_append] at s1
      rcases List.mem_append.1 hz with hz | hz
      · exact ho.thru z l x (hA z (List.mem_of_mem_take (by rw [hT']; exact List.mem_append_left _ hz))) (hA l (List.mem_of_getElem? hl)) hx (s1.2.2 z hz l (by simp)) (h1 l hs0 hl)
      · rw [List.mem_singleton] at hz; subst hz; exact h1 _ hs0 hl
  refine ⟨s1, List.pairwise_cons.2 ⟨hd, s2⟩, fun y hy z hz => ?_⟩
  rcases List.mem_cons.1 hz with rfl | hz
  · exact htk y hy
  · exact s3 y hy z hz

set_option maxRecDepth 10000 in
set_option maxHeartbeats 4000000 in
theorem symA (A : Pf → Prop) (c : Pf → Pf → Int) (ho : Ordr A c) (hc : Cmpr A c) (g n cap B : Nat) (p V q : List Pf) (x : Pf) (a m b : Nat) (ha : a = p.length) (hm : m = p.length + 1) (hb : b = p.length + 1 + V.length) (hxA : A x) (hA : ∀ y ∈ V, A y) (hV : Srt c V) (hn9 : n ≤ 1000000000) (w : World) (h : OwnR 55 w B (.slice (some ⟨g, 0, none⟩) n cap) (p ++ (x :: (V ++ q)))) :
    Calls Try.prog 90 #[.slice (some ⟨g, 0, none⟩) n cap, .int .i64 a, .int .i64 m, .int .i64 b, .func (.func 30) #[] #[]] w fun e w' => (∃ v, e = .returned v) ∧ (∃ R, R.Perm (x :: V) ∧ Srt c R ∧ OwnR 55 w' B (.slice (some ⟨g, 0, none⟩) n cap) (p ++ (R ++ q))) ∧ w.grownBy w' (some g) := by
  have HO := hidP h
  have HOr := hidP ho
  have HC := hidP hc
  have HA := hidP (And.intro hxA hA)
  have HSt := hidP hV
  have hn : n = p.length + 1 + V.length + q.length := by rw [h.caps.1]; simp; omega
  have HF := hidP (And.intro ha (And.intro hm (And.intro hb hn)))
  have e1 : (m : Int) - (a : Int) = 1 := by omega
  have hab : a < n := by omega
  have hbn : b ≤ n := by omega
  have hmb : m ≤ b := by omega
  clear h ho hc hxA hA hV ha hm hb hn
  go_enter Try.func90, Try.ntmps90
  go_wp2_with fail
  go_loopw [10, 11] (fun t10 t11 wr => ∃ (i j s t : Nat), t10 = .int .i64 i ∧ t11 = .int .i64 j ∧ i = m + s ∧ j = m + t ∧ s ≤ t ∧ t ≤ V.length ∧ (∀ z, V[s - 1]? = some z → s = 0 ∨ c z x < 0) ∧ (∀ z, V[t]? = some z → ¬ c z x < 0) ∧ OwnR 55 wr B (.slice (some ⟨g, 0, none⟩) n cap) (p ++ (x :: (V ++ q))) ∧ w.grownBy wr (some g)) (fun t10 t11 _ => (intOf t11).toNat - (intOf t10).toNat)
  case atStart =>
    obtain ⟨f1, f2, f3, f4⟩ := HF.out
    refine ⟨m, b, 0, V.length, rfl, rfl, rfl, by omega, Nat.zero_le _, Nat.le_refl _, ?_, ?_, HO.out, World.grownBy.refl _ _⟩
    · intro z _; exact Or.inl rfl
    · intro z hz; rw [List.getElem?_eq_none (Nat.le_refl _)] at hz; cases hz
  case round =>
    obtain ⟨i, j, s, t, rfl, rfl, hi, hj, hst, htV, hs, ht, hown, hgr⟩ := hrel
    have HH := hidP (And.intro hi (And.intro hj (And.intro hst (And.intro htV (And.intro hs ht)))))
    have HOw := hidP hown
    have HG := hidP hgr
    have hjn : j ≤ n := by have := HF.out; omega
    by_cases hlt : i < j
    · obtain ⟨z, hz⟩ : ∃ z : Int, (i : Int) + (j : Int) = z := ⟨_, rfl⟩
      obtain ⟨h, hh⟩ : ∃ h : Int, z / 2 = h := ⟨_, rfl⟩
      have hz0 : 0 ≤ z := by omega
      have hz9 : z ≤ 2000000000 := by omega
      have hh0 : 0 ≤ h := by omega
      have hhn : h < (n : Int) := by omega
      have hh9 : h ≤ 1000000000 := by omega
      have HZ := hidP (And.intro hz hh)
      clear hi hj hst htV hs ht hown hgr HO
      obtain ⟨zv, hzv⟩ : ∃ zv, V[h.toNat - m]? = some zv := ⟨_, List.getElem?_eq_getElem (by have h1 := HZ.out; have h2 := HH.out; omega)⟩
      have hzA : A zv := HA.out.2 zv (List.mem_of_getElem? hzv)
      have hF := HF.out
      have hZ := HZ.out
      have hH := HH.out
      have hmh : m ≤ h.toNat := by omega
      have eh : (p ++ (x :: (V ++ q)))[h.toNat]? = some zv := by
        rw [List.getElem?_append_right (by omega), show h.toNat - p.length = (h.toNat - m) + 1 by omega, List.getElem?_cons_succ, List.getElem?_append_left (by rcases Nat.lt_or_ge (h.toNat - m) V.length with h1 | h1; exact h1; rw [List.getElem?_eq_none h1] at hzv; cases hzv)]; exact hzv
      have ea : (p ++ (x :: (V ++ q)))[a]? = some x := by rw [hF.1]; simp
      obtain ⟨x0, x1, x2, x3⟩ := HOw.out.atk h.toNat zv eh
      obtain ⟨y0, y1, y2, y3⟩ := HOw.out.atk a x ea
      have hgi := (HOw.out.lt g rfl).2
      have HK := hidP (HC.out zv x hzA HA.out.1)
      have HZv := hidP (And.intro hzv hmh)
      clear hF hZ hH eh ea hzv hzA hmh
      go_wp2_with fail
      by_cases hcl : c zv x < 0
      · have dcl : decide (c zv x < 0) = true := decide_eq_true hcl
        refine wp_region_held_drew (S := (fun v => v.cell? ⟨g, h.toNat * 4, none⟩ = some (.bool zv.s) ∧ v.cell? ⟨g, h.toNat * 4 + 1, none⟩ = some (.int .i64 zv.H.toInt) ∧ v.cell? ⟨g, h.toNat * 4 + 2, none⟩ = some (.int .i64 zv.L.toInt) ∧ v.cell? ⟨g, h.toNat * 4 + 3, none⟩ = some (.int .i64 zv.b) ∧ v.cell? ⟨g, a * 4, none⟩ = some (.bool x.s) ∧ v.cell? ⟨g, a * 4 + 1, none⟩ = some (.int .i64 x.H.toInt) ∧ v.cell? ⟨g, a * 4 + 2, none⟩ = some (.int .i64 x.L.toInt) ∧ v.cell? ⟨g, a * 4 + 3, none⟩ = some (.int .i64 x.b))) (by kernel_rfl) ?_ (fun hHeld => ?_)
        · try dsimp only
          exact keepS (Below.refl _ _).drew hgi ⟨x0, x1, x2, x3, y0, y1, y2, y3⟩
        refine wpAnyH_take (i := 0) (oi := ⟨some 40, _, _, _, _, _⟩) (v := ?_) rfl (by kernel_rfl) (by kernel_rfl) (by kernel_rfl) (fun _ _ _ h => h) (Or.inl ⟨by rfl, ?_⟩) (by assumption) ?_
        rotate_left
        · intro w hSw
          try dsimp only at hSw
          go_simp
          try with_reducible rfl
        simp only [Act.put, List.setIfInBounds_toArray, List.set_cons_zero, List.set_cons_succ]
        refine wpAnyH_take (i := 1) (oi := ⟨some 41, _, _, _, _, _⟩) (v := ?_) rfl (by kernel_rfl) (by kernel_rfl) (by kernel_rfl) (fun _ _ _ h => h) (Or.inl ⟨by rfl, ?_⟩) (by assumption) ?_
        rotate_left
        · intro w hSw
          try dsimp only at hSw
          go_simp
          try with_reducible rfl
        simp only [Act.put, List.setIfInBounds_toArray, List.set_cons_zero, List.set_cons_succ]
        refine wpAnyH_take (i := 2) (oi := ⟨some 42, _, _, _, _, _⟩) (v := ?_) rfl (by kernel_rfl) (by kernel_rfl) (by kernel_rfl) (fun _ _ _ h => h) (Or.inl ⟨by rfl, ?_⟩) (by assumption) ?_
        rotate_left
        · intro w hSw
          try dsimp only at hSw
          go_simp
          try with_reducible rfl
        simp only [Act.put, List.setIfInBounds_toArray, List.set_cons_zero, List.set_cons_succ]
        refine wpAnyH_take (i := 3) (oi := ⟨some 43, _, _, _, _, _⟩) (v := ?_) rfl (by kernel_rfl) (by kernel_rfl) (by kernel_rfl) (fun _ _ _ h => h) (Or.inl ⟨by rfl, ?_⟩) (by assumption) ?_
        rotate_left
        · intro w hSw
          try dsimp only at hSw
          go_simp
          try with_reducible rfl
        simp only [Act.put, List.setIfInBounds_toArray, List.set_cons_zero, List.set_cons_succ]
        refine wpAnyH_take (i := 4) (oi := ⟨some 44, _, _, _, _, _⟩) (v := ?_) rfl (by kernel_rfl) (by kernel_rfl) (by kernel_rfl) (fun _ _ _ h => h) (Or.inl ⟨by rfl, ?_⟩) (by assumption) ?_
        rotate_left
        · intro w hSw
          try dsimp only at hSw
          go_simp
          try with_reducible rfl
        simp only [Act.put, List.setIfInBounds_toArray, List.set_cons_zero, List.set_cons_succ]
        refine wpAnyH_take (i := 5) (oi := ⟨some 45, _, _, _, _, _⟩) (v := ?_) rfl (by kernel_rfl) (by kernel_rfl) (by kernel_rfl) (fun _ _ _ h => h) (Or.inl ⟨by rfl, ?_⟩) (by assumption) ?_
        rotate_left
        · intro w hSw
          try dsimp only at hSw
          go_simp
          try with_reducible rfl
        simp only [Act.put, List.setIfInBounds_toArray, List.set_cons_zero, List.set_cons_succ]
        refine wpAnyH_take (i := 6) (oi := ⟨some 46, _, _, _, _, _⟩) (v := ?_) rfl (by kernel_rfl) (by kernel_rfl) (by kernel_rfl) (fun _ _ _ h => h) (Or.inl ⟨by rfl, ?_⟩) (by assumption) ?_
        rotate_left
        · intro w hSw
          try dsimp only at hSw
          go_simp
          try with_reducible rfl
        simp only [Act.put, List.setIfInBounds_toArray, List.set_cons_zero, List.set_cons_succ]
        refine wpAnyH_take (i := 7) (oi := ⟨some 47, _, _, _, _, _⟩) (v := ?_) rfl (by kernel_rfl) (by kernel_rfl) (by kernel_rfl) (fun _ _ _ h => h) (Or.inl ⟨by rfl, ?_⟩) (by assumption) ?_
        rotate_left
        · intro w hSw
          try dsimp only at hSw
          go_simp
          try with_reducible rfl
        simp only [Act.put, List.setIfInBounds_toArray, List.set_cons_zero, List.set_cons_succ]
        refine wpAnyH_take (i := 8) (oi := ⟨some 48, _, _, _, _, _⟩) (v := ?_) rfl (by kernel_rfl) (by kernel_rfl) (by kernel_rfl) (fun _ _ _ h => h) (Or.inl ⟨by rfl, ?_⟩) (by assumption) ?_
        rotate_left
        · intro w hSw
          try dsimp only at hSw
          go_simp
          try with_reducible rfl
        simp only [Act.put, List.setIfInBounds_toArray, List.set_cons_zero, List.set_cons_succ]
        refine wpAnyH_ready (rs := [9]) (by kernel_rfl) (by simp) ?_
        refine AllReadyH.cons rfl (fun K hK => ?_) AllReadyH.nil
        go_simp
        go_wp2_with (first | (go_at_call 30; refine (HK.out _).mono ?_; rintro e w2 ⟨rfl, hb2⟩; have hr2 : Below wr.heap.size wr w2 := (Below.refl _ wr).drew.trans (hb2.mono (by simp))))
        refine hK.out _ _ ?_ (fun hHeld => ?_)
        · try dsimp only
          exact keepS hr2 hgi ⟨x0, x1, x2, x3, y0, y1, y2, y3⟩
        clear hK K
        refine wpAnyH_take (i := 10) (oi := ⟨some 50, _, _, _, _, _⟩) (v := ?_) rfl (by kernel_rfl) (by kernel_rfl) (by kernel_rfl) (fun _ _ _ h => h) (Or.inl ⟨by rfl, ?_⟩) (by assumption) ?_
        rotate_left
        · intro w hSw
          try dsimp only at hSw
          go_simp
          try with_reducible rfl
        simp only [Act.put, List.setIfInBounds_toArray, List.set_cons_zero, List.set_cons_succ]
        refine wpAnyH_done (by kernel_rfl) ?_ _
        have HO2 := hidP (HOw.out.later hr2)
        have HG2 := hidP (HG.out.trans (below_grown' hr2 _))
        clear hr2 x0 x1 x2 x3 y0 y1 y2 y3 hHeld hb2
        go_wp2_with fail
        go_roundw
        case rel =>
          obtain ⟨f1, f2, f3, f4, f5, f6⟩ := HH.out
          obtain ⟨v1, v2⟩ := HZv.out
          have hZ := HZ.out
          refine ⟨h.toNat + 1, j, h.toNat - m + 1, t, by rw [show h + 1 = ((h.toNat + 1 : Nat) : Int) by omega], rfl, by omega, f2, by omega, f4, ?_, (fun z hz => by have := f6 z hz; omega), HO2.out, HG2.out⟩
          intro z hz
          rw [Nat.add_sub_cancel, v1] at hz
          cases hz
          exact Or.inr hcl
        case measure => have hZ := HZ.out; simp [intOf]; omega
      · have dcl : decide (c zv x < 0) = false := decide_eq_false hcl
        refine wp_region_held_drew (S := (fun v => v.cell? ⟨g, h.toNat * 4, none⟩ = some (.bool zv.s) ∧ v.cell? ⟨g, h.toNat * 4 + 1, none⟩ = some (.int .i64 zv.H.toInt) ∧ v.cell? ⟨g, h.toNat * 4 + 2, none⟩ = some (.int .i64 zv.L.toInt) ∧ v.cell? ⟨g, h.toNat * 4 + 3, none⟩ = some (.int .i64 zv.b) ∧ v.cell? ⟨g, a * 4, none⟩ = some (.bool x.s) ∧ v.cell? ⟨g, a * 4 + 1, none⟩ = some (.int .i64 x.H.toInt) ∧ v.cell? ⟨g, a * 4 + 2, none⟩ = some (.int .i64 x.L.toInt) ∧ v.cell? ⟨g, a * 4 + 3, none⟩ = some (.int .i64 x.b))) (by kernel_rfl) ?_ (fun hHeld => ?_)
        · try dsimp only
          exact keepS (Below.refl _ _).drew hgi ⟨x0, x1, x2, x3, y0, y1, y2, y3⟩
        refine wpAnyH_take (i := 0) (oi := ⟨some 40, _, _, _, _, _⟩) (v := ?_) rfl (by kernel_rfl) (by kernel_rfl) (by kernel_rfl) (fun _ _ _ h => h) (Or.inl ⟨by rfl, ?_⟩) (by assumption) ?_
        rotate_left
        · intro w hSw
          try dsimp only at hSw
          go_simp
          try with_reducible rfl
        simp only [Act.put, List.setIfInBounds_toArray, List.set_cons_zero, List.set_cons_succ]
        refine wpAnyH_take (i := 1) (oi := ⟨some 41, _, _, _, _, _⟩) (v := ?_) rfl (by kernel_rfl) (by kernel_rfl) (by kernel_rfl) (fun _ _ _ h => h) (Or.inl ⟨by rfl, ?_⟩) (by assumption) ?_
        rotate_left
        · intro w hSw
          try dsimp only at hSw
          go_simp
          try with_reducible rfl
        simp only [Act.put, List.setIfInBounds_toArray, List.set_cons_zero, List.set_cons_succ]
        refine wpAnyH_take (i := 2) (oi := ⟨some 42, _, _, _, _, _⟩) (v := ?_) rfl (by kernel_rfl) (by kernel_rfl) (by kernel_rfl) (fun _ _ _ h => h) (Or.inl ⟨by rfl, ?_⟩) (by assumption) ?_
        rotate_left
        · intro w hSw
          try dsimp only at hSw
          go_simp
          try with_reducible rfl
        simp only [Act.put, List.setIfInBounds_toArray, List.set_cons_zero, List.set_cons_succ]
        refine wpAnyH_take (i := 3) (oi := ⟨some 43, _, _, _, _, _⟩) (v := ?_) rfl (by kernel_rfl) (by kernel_rfl) (by kernel_rfl) (fun _ _ _ h => h) (Or.inl ⟨by rfl, ?_⟩) (by assumption) ?_
        rotate_left
        · intro w hSw
          try dsimp only at hSw
          go_simp
          try with_reducible rfl
        simp only [Act.put, List.setIfInBounds_toArray, List.set_cons_zero, List.set_cons_succ]
        refine wpAnyH_take (i := 4) (oi := ⟨some 44, _, _, _, _, _⟩) (v := ?_) rfl (by kernel_rfl) (by kernel_rfl) (by kernel_rfl) (fun _ _ _ h => h) (Or.inl ⟨by rfl, ?_⟩) (by assumption) ?_
        rotate_left
        · intro w hSw
          try dsimp only at hSw
          go_simp
          try with_reducible rfl
        simp only [Act.put, List.setIfInBounds_toArray, List.set_cons_zero, List.set_cons_succ]
        refine wpAnyH_take (i := 5) (oi := ⟨some 45, _, _, _, _, _⟩) (v := ?_) rfl (by kernel_rfl) (by kernel_rfl) (by kernel_rfl) (fun _ _ _ h => h) (Or.inl ⟨by rfl, ?_⟩) (by assumption) ?_
        rotate_left
        · intro w hSw
          try dsimp only at hSw
          go_simp
          try with_reducible rfl
        simp only [Act.put, List.setIfInBounds_toArray, List.set_cons_zero, List.set_cons_succ]
        refine wpAnyH_take (i := 6) (oi := ⟨some 46, _, _, _, _, _⟩) (v := ?_) rfl (by kernel_rfl) (by kernel_rfl) (by kernel_rfl) (fun _ _ _ h => h) (Or.inl ⟨by rfl, ?_⟩) (by assumption) ?_
        rotate_left
        · intro w hSw
          try dsimp only at hSw
          go_simp
          try with_reducible rfl
        simp only [Act.put, List.setIfInBounds_toArray, List.set_cons_zero, List.set_cons_succ]
        refine wpAnyH_take (i := 7) (oi := ⟨some 47, _, _, _, _, _⟩) (v := ?_) rfl (by kernel_rfl) (by kernel_rfl) (by kernel_rfl) (fun _ _ _ h => h) (Or.inl ⟨by rfl, ?_⟩) (by assumption) ?_
        rotate_left
        · intro w hSw
          try dsimp only at hSw
          go_simp
          try with_reducible rfl
        simp only [Act.put, List.setIfInBounds_toArray, List.set_cons_zero, List.set_cons_succ]
        refine wpAnyH_take (i := 8) (oi := ⟨some 48, _, _, _, _, _⟩) (v := ?_) rfl (by kernel_rfl) (by kernel_rfl) (by kernel_rfl) (fun _ _ _ h => h) (Or.inl ⟨by rfl, ?_⟩) (by assumption) ?_
        rotate_left
        · intro w hSw
          try dsimp only at hSw
          go_simp
          try with_reducible rfl
        simp only [Act.put, List.setIfInBounds_toArray, List.set_cons_zero, List.set_cons_succ]
        refine wpAnyH_ready (rs := [9]) (by kernel_rfl) (by simp) ?_
        refine AllReadyH.cons rfl (fun K hK => ?_) AllReadyH.nil
        go_simp
        go_wp2_with (first | (go_at_call 30; refine (HK.out _).mono ?_; rintro e w2 ⟨rfl, hb2⟩; have hr2 : Below wr.heap.size wr w2 := (Below.refl _ wr).drew.trans (hb2.mono (by simp))))
        refine hK.out _ _ ?_ (fun hHeld => ?_)
        · try dsimp only
          exact keepS hr2 hgi ⟨x0, x1, x2, x3, y0, y1, y2, y3⟩
        clear hK K
        refine wpAnyH_take (i := 10) (oi := ⟨some 50, _, _, _, _, _⟩) (v := ?_) rfl (by kernel_rfl) (by kernel_rfl) (by kernel_rfl) (fun _ _ _ h => h) (Or.inl ⟨by rfl, ?_⟩) (by assumption) ?_
        rotate_left
        · intro w hSw
          try dsimp only at hSw
          go_simp
          try with_reducible rfl
        simp only [Act.put, List.setIfInBounds_toArray, List.set_cons_zero, List.set_cons_succ]
        refine wpAnyH_done (by kernel_rfl) ?_ _
        have HO2 := hidP (HOw.out.later hr2)
        have HG2 := hidP (HG.out.trans (below_grown' hr2 _))
        clear hr2 x0 x1 x2 x3 y0 y1 y2 y3 hHeld hb2
        go_wp2_with fail
        go_roundw
        case rel =>
          obtain ⟨f1, f2, f3, f4, f5, f6⟩ := HH.out
          obtain ⟨v1, v2⟩ := HZv.out
          have hZ := HZ.out
          refine ⟨i, h.toNat, s, h.toNat - m, rfl, by rw [show h = ((h.toNat : Nat) : Int) by omega]; simp, f1, by omega, by omega, by omega, f5, ?_, HO2.out, HG2.out⟩
          intro z hz
          rw [v1] at hz
          cases hz
          omega
        case measure => have hZ := HZ.out; simp [intOf]; omega
    · obtain ⟨e, he⟩ : ∃ e, e = a + s := ⟨_, rfl⟩
      have hF := HF.out
      have hei : (i : Int) - 1 = (e : Int) := by omega
      have hen : e < n := by omega
      have hst' : s = t := by omega
      have HE := hidP (And.intro he hst')
      clear hi hj hst htV hs ht hown hgr HO hF he hst'
      go_wp2_with fail
      go_loopw [13] (fun t13 wk => ∃ (K d : Nat), t13 = .int .i64 K ∧ K = a + d ∧ d ≤ s ∧ OwnR 55 wk B (.slice (some ⟨g, 0, none⟩) n cap) (p ++ (V.take d ++ (x :: (V.drop d ++ q)))) ∧ w.grownBy wk (some g)) (fun t13 _ => e - (intOf t13).toNat)
      case atStart => exact ⟨a, 0, rfl, rfl, Nat.zero_le _, by simpa using HOw.out, HG.out⟩
      case round =>
        obtain ⟨K, d, rfl, hK, hds, hown, hgr⟩ := hrel
        have HOk := hidP hown
        have HGk := hidP hgr
        by_cases hlt2 : K < e
        · have hH := HH.out
          have hF := HF.out
          have hE := HE.out
          have hdV : d < V.length := by omega
          have hxd : V.drop d = V[d] :: V.drop (d + 1) := List.drop_eq_getElem_cons _
          have htd : V.take (d + 1) = V.take d ++ [V[d]] := List.take_succ_eq_append_getElem _
          generalize V[d] = y at *
          have e1 : p ++ (V.take d ++ (x :: (V.drop d ++ q))) = (p ++ V.take d) ++ x :: ([] ++ y :: (V.drop (d + 1) ++ q)) := by rw [hxd]; simp
          rw [e1] at hown
          obtain ⟨K1, hK1⟩ : ∃ K1, K1 = K + 1 := ⟨_, rfl⟩
          obtain ⟨-, ⟨x0, x1, x2, x3⟩, ⟨y0, y1, y2, y3⟩, hf, hs⟩ := hown.swap K K1 (by rw [List.length_append, List.length_take]; omega) (by rw [List.length_append, List.length_take]; simp; omega)
          have HS := hidP hs
          have HT := hidP (And.intro htd hK)
          have f0 := hf (K * 4)
          have f1 := hf (K * 4 + 1)
          have f2 := hf (K * 4 + 2)
          have f3 := hf (K * 4 + 3)
          have k0 := hf (K1 * 4)
          have k1 := hf (K1 * 4 + 1)
          have k2 := hf (K1 * 4 + 2)
          have k3 := hf (K1 * 4 + 3)
          have hKn : K < n := by omega
          have hK1n : K1 < n := by omega
          have hKK : K < K1 := by omega
          have hKi : (K : Int) + 1 = (K1 : Int) := by omega
          have HK1 := hidP hK1
          clear hH hF hE hxd htd e1 hown hgr hs hf hK1 hK
          go_wp2_with fail
          go_region
          all_goals
            go_wp2_with fail
            go_roundw
            case rel =>
              obtain ⟨r1, r2⟩ := HT.out
              have r3 := HK1.out
              have r4 := HE.out
              refine ⟨K1, d + 1, rfl, by omega, by omega, ?_, ((HGk.out.trans grown_four).trans grown_four).trans grown_drew⟩
              have h := HS.out.drewR
              rw [r1]
              simpa using h
            case measure => have r3 := HK1.out; simp [intOf]; omega
        · have hds' : d = s := by have := HE.out; omega
          subst hds'
          have hF : ∃ R, R.Perm (x :: V) ∧ Srt c R ∧ OwnR 55 wr B (.slice (some ⟨g, 0, none⟩) n cap) (p ++ (R ++ q)) := by
            obtain ⟨f1, f2, f3, f4, f5, f6⟩ := HH.out
            have hE := HE.out.2
            refine ⟨V.take d ++ x :: V.drop d, ?_, srt_cut HOr.out HA.out.1 HA.out.2 HSt.out d (by omega) (fun z h0 hz => ?_) (fun z hz => by have := f6 z (by rw [← hE]; exact hz); omega), by simpa using hown⟩
            · refine List.perm_middle.trans ?_
              rw [List.take_append_drop]
            · have hzA := HA.out.2 z (List.mem_of_getElem? hz)
              rcases f5 z hz with h | h
              · omega
              · exact HOr.out.asym z x hzA HA.out.1 h
          have HFi := hidP hF
          clear hF hown hgr hK hds
          go_wp2_with fail
          exact bodyPost_ret (v := .tuple #[]) (by simp [results, Try.results90]) rfl ⟨⟨_, rfl⟩, HFi.out, HGk.out⟩

end Go.Proofs.Ytgohffeneibhdaa
