/-
  slices: the insertion sort of a part of a row.
-/
import Derived.Test.YtgohffeneibhdaaMSw
import Derived.Deep.RegionWith
import Derived.Deep.RegionHeld3
namespace Go.Proofs.Ytgohffeneibhdaa
open Go.RowKit

/-- An order by a comparison: what is less is not more; what isn't more goes through. -/
structure Ordr (A : Pf → Prop) (c : Pf → Pf → Int) : Prop where
  asym : ∀ x y, A x → A y → c x y < 0 → ¬ c y x < 0
  thru : ∀ x y z, A x → A y → A z → ¬ c y x < 0 → ¬ c z y < 0 → ¬ c z x < 0
/-- The comparison that is handed in. -/
def Cmpr (A : Pf → Prop) (c : Pf → Pf → Int) : Prop := ∀ x y : Pf, A x → A y → ∀ w : World, Calls Try.prog 30 #[.agg #[.bool x.s, .int .i64 x.H.toInt, .int .i64 x.L.toInt, .int .i64 x.b], .agg #[.bool y.s, .int .i64 y.H.toInt, .int .i64 y.L.toInt, .int .i64 y.b]] w fun e w' => e = .returned (.int .i64 (c x y)) ∧ Below w.heap.size w w'
def Srt (c : Pf → Pf → Int) (R : List Pf) : Prop := R.Pairwise fun x y => ¬ c y x < 0

theorem w64P (x : Int) : wrap64 x = IntKind.i64.wrap x := by rw [IntKind.wrap_i64, wrap64]
theorem below_grown' {w w' : World} (h : Below w.heap.size w w') (r : Option Nat) : w.grownBy w' r := ⟨h.os, h.tape, h.output, h.size, fun k hk _ => h.block k hk⟩
theorem srt_in {A : Pf → Prop} {c : Pf → Pf → Int} (ho : Ordr A c) {L1 L2 : List Pf} {y : Pf} (h : Srt c (L1 ++ L2)) (hA : ∀ x ∈ L1 ++ L2, A x) (hy : A y) (h2 : ∀ z ∈ L2, c y z < 0) (h1 : ∀ L0 x, L1 = L0 ++ [x] → ¬ c y x < 0) : Srt c (L1 ++ y :: L2) := by
  unfold Srt at *
  rw [List.pairwise_append] at h ⊢
  obtain ⟨s1, s2, s3⟩ := h
  refine ⟨s1, List.pairwise_cons.2 ⟨fun z hz => ho.asym y z hy (hA z (List.mem_append_right _ hz)) (h2 z hz), s2⟩, fun x hx z hz => ?_⟩
  rcases List.mem_cons.1 hz with rfl | hz
  · rcases List.eq_nil_or_concat L1 with rfl | ⟨L0, l, rfl⟩
    · cases hx
    · have hl := h1 L0 l (by simp)
      have hlA : A l := hA l (by simp)
      rcases List.mem_append.1 (by simpa using hx : x ∈ L0 ++ [l]) with hx0 | hx0
      · have s1' : (L0 ++ [l]).Pairwise fun x y => ¬ c y x < 0 := by simpa using s1
        rw [List.pairwise_append] at s1'
        exact ho.thru x l _ (hA x (by simp [hx0])) hlA hy (s1'.2.2 x hx0 l (by simp)) hl
      · rw [List.mem_singleton] at hx0; subst hx0; exact hl
  · exact s3 x hx z hz

theorem ins_next {A : Pf → Prop} {c : Pf → Pf → Int} (ho : Ordr A c) {R T L1 L2 : List Pf} {y : Pf} (hR : R = L1 ++ L2) (hpm : R.Perm T) (hst : Srt c R) (hRA : ∀ x ∈ R, A x) (hyA : A y) (h2 : ∀ z ∈ L2, c y z < 0) (h1 : ∀ L0 x, L1 = L0 ++ [x] → ¬ c y x < 0) : (L1 ++ y :: L2).Perm (T ++ [y]) ∧ Srt c (L1 ++ y :: L2) := by
  subst hR
  refine ⟨?_, srt_in ho hst hRA hyA h2 h1⟩
  refine List.perm_middle.trans ?_
  refine (List.perm_append_singleton y (L1 ++ L2)).symm.trans ?_
  exact hpm.append_right [y]
theorem keepS {W X : World} {g J j : Nat} {x y : Pf} (b : Below W.heap.size W X) (hg : g < W.heap.size) (h : W.cell? ⟨g, J * 4, none⟩ = some (.bool x.s) ∧ W.cell? ⟨g, J * 4 + 1, none⟩ = some (.int .i64 x.H.toInt) ∧ W.cell? ⟨g, J * 4 + 2, none⟩ = some (.int .i64 x.L.toInt) ∧ W.cell? ⟨g, J * 4 + 3, none⟩ = some (.int .i64 x.b) ∧ W.cell? ⟨g, j * 4, none⟩ = some (.bool y.s) ∧ W.cell? ⟨g, j * 4 + 1, none⟩ = some (.int .i64 y.H.toInt) ∧ W.cell? ⟨g, j * 4 + 2, none⟩ = some (.int .i64 y.L.toInt) ∧ W.cell? ⟨g, j * 4 + 3, none⟩ = some (.int .i64 y.b)) : X.cell? ⟨g, J * 4, none⟩ = some (.bool x.s) ∧ X.cell? ⟨g, J * 4 + 1, none⟩ = some (.int .i64 x.H.toInt) ∧ X.cell? ⟨g, J * 4 + 2, none⟩ = some (.int .i64 x.L.toInt) ∧ X.cell? ⟨g, J * 4 + 3, none⟩ = some (.int .i64 x.b) ∧ X.cell? ⟨g, j * 4, none⟩ = some (.bool y.s) ∧ X.cell? ⟨g, j * 4 + 1, none⟩ = some (.int .i64 y.H.toInt) ∧ X.cell? ⟨g, j * 4 + 2, none⟩ = some (.int .i64 y.L.toInt) ∧ X.cell? ⟨g, j * 4 + 3, none⟩ = some (.int .i64 y.b) :=
  ⟨(b.cell hg).trans h.1, (b.cell hg).trans h.2.1, (b.cell hg).trans h.2.2.1, (b.cell hg).trans h.2.2.2.1, (b.cell hg).trans h.2.2.2.2.1, (b.cell hg).trans h.2.2.2.2.2.1, (b.cell hg).trans h.2.2.2.2.2.2.1, (b.cell hg).trans h.2.2.2.2.2.2.2⟩

set_option maxRecDepth 10000 in
set_option maxHeartbeats 4000000 in
theorem insertion_any (A : Pf → Prop) (c : Pf → Pf → Int) (ho : Ordr A c) (hc : Cmpr A c) (g n cap B : Nat) (p X q : List Pf) (a b : Nat) (ha : a = p.length) (hb : b = p.length + X.length) (hA : ∀ x ∈ X, A x) (hn9 : n ≤ 1000000000) (w : World) (h : OwnR 55 w B (.slice (some ⟨g, 0, none⟩) n cap) (p ++ (X ++ q))) :
    Calls Try.prog 89 #[.slice (some ⟨g, 0, none⟩) n cap, .int .i64 a, .int .i64 b, .func (.func 30) #[] #[]] w fun e w' => (∃ v, e = .returned v) ∧ (∃ R, R.Perm X ∧ Srt c R ∧ OwnR 55 w' B (.slice (some ⟨g, 0, none⟩) n cap) (p ++ (R ++ q))) ∧ w.grownBy w' (some g) := by
  have HO := hidP h
  have HOr := hidP ho
  have HC := hidP hc
  have HA := hidP hA
  have hn : n = p.length + X.length + q.length := by rw [h.caps.1]; simp; omega
  have hF := And.intro ha (And.intro hb hn)
  have HF := hidP hF
  have hab : a ≤ b := by omega
  have hbn : b ≤ n := by omega
  have hgw := (OwnR.lt h g rfl).2
  clear h ho hc hA hF ha hb hn
  go_enter Try.func89, Try.ntmps89
  go_wp2_with fail
  go_loopw [8] (fun t8 wr => ∃ (k I : Nat) (R : List Pf), 1 ≤ k ∧ I ≤ n + 1 ∧ t8 = .int .i64 I ∧ I = a + k ∧ R.Perm (X.take k) ∧ Srt c R ∧ OwnR 55 wr B (.slice (some ⟨g, 0, none⟩) n cap) (p ++ (R ++ (X.drop k ++ q))) ∧ w.grownBy wr (some g)) (fun t8 _ => b - (intOf t8).toNat)
  case atStart => exact ⟨1, a + 1, X.take 1, Nat.le_refl _, by omega, by go_num, rfl, List.Perm.refl _, by (cases X with | nil => exact List.Pairwise.nil | cons x t => exact List.pairwise_singleton _ _), by rw [td]; exact HO.out, World.grownBy.refl _ _⟩
  case round =>
    obtain ⟨k, I, R, hk1, hk2, rfl, hI, hpm, hst, hown, hgr⟩ := hrel
    by_cases hlt : I < b
    · have hkX : k < X.length := by have := HF.out; omega
      have hxk : X.drop k = X[k] :: X.drop (k + 1) := List.drop_eq_getElem_cons _
      have htk : X.take (k + 1) = X.take k ++ [X[k]] := List.take_succ_eq_append_getElem _
      have hyA : A X[k] := HA.out _ (List.getElem_mem _)
      generalize X[k] = y at *
      have hRl : R.length = k := by rw [hpm.length_eq, List.length_take]; omega
      have hRA : ∀ x ∈ R, A x := fun x hx => HA.out x (List.mem_of_mem_take (hpm.mem_iff.1 hx))
      rw [hxk] at hown
      have HX := hidP (And.intro htk (And.intro hpm (And.intro hst (And.intro hRl (And.intro hRA hyA)))))
      have HOw := hidP hown
      have HG := hidP hgr
      clear hown hgr hpm hst hRl hRA hyA hxk htk HO
      have HI := hidP hI
      have hIb : I < n := by omega
      clear hI
      go_wp2_with fail
      go_loopw [9] (fun t9 wi => ∃ (j : Nat) (L1 L2 : List Pf), t9 = .int .i64 j ∧ R = L1 ++ L2 ∧ j = a + L1.length ∧ (∀ z ∈ L2, c y z < 0) ∧ OwnR 55 wi B (.slice (some ⟨g, 0, none⟩) n cap) (p ++ (L1 ++ (y :: (L2 ++ (X.drop (k + 1) ++ q))))) ∧ w.grownBy wi (some g)) (fun t9 _ => (intOf t9).toNat)
      case atStart => exact ⟨I, R, [], rfl, by simp, by have := HX.out.2.2.2.1; have := HI.out; omega, (fun z hz => by cases hz), by simpa using HOw.out, HG.out⟩
      case round =>
        obtain ⟨j, L1, L2, rfl, hR, hj, hL2, hown, hgr⟩ := hrel
        have HR := hidP (And.intro hR (And.intro hj hL2))
        have HOi := hidP hown
        have HGi := hidP hgr
        have hjI : j ≤ I := by have h1 := HX.out.2.2.2.1; have h2 := HI.out; rw [hR, List.length_append] at h1; omega
        have hjn : j < n := by omega
        rcases List.eq_nil_or_concat L1 with hL | ⟨L0, x, hL⟩
        · have hja : j = a := by rw [hj, hL]; simp
          subst hja
          have HL := hidP hL
          clear hR hj hL2 hown hgr hL
          go_wp2_with fail
          refine wp_region_held_drew (S := fun _ => True) (by kernel_rfl) trivial (fun hHeld => ?_)
          refine wpAnyH_take (i := 0) (oi := ⟨some 18, _, _, _, _, _⟩) (v := ?_) rfl (by kernel_rfl) (by kernel_rfl) (by kernel_rfl) (fun _ _ _ h => h) (Or.inl ⟨by rfl, ?_⟩) (by assumption) ?_
          rotate_left
          · intro w hSw
            try dsimp only at hSw
            go_simp
            try with_reducible rfl
          simp only [Act.put, List.setIfInBounds_toArray, List.set_cons_zero, List.set_cons_succ]
          refine wpAnyH_take (i := 1) (oi := ⟨some 19, _, _, _, _, _⟩) (v := ?_) rfl (by kernel_rfl) (by kernel_rfl) (by kernel_rfl) (fun _ _ _ h => h) (Or.inl ⟨by rfl, ?_⟩) (by assumption) ?_
          rotate_left
          · intro w hSw
            try dsimp only at hSw
            go_simp
            try with_reducible rfl
          simp only [Act.put, List.setIfInBounds_toArray, List.set_cons_zero, List.set_cons_succ]
          refine wpAnyH_take (i := 2) (oi := ⟨some 20, _, _, _, _, _⟩) (v := ?_) rfl (by kernel_rfl) (by kernel_rfl) (by kernel_rfl) (fun _ _ _ h => h) (Or.inl ⟨by rfl, ?_⟩) (by assumption) ?_
          rotate_left
          · intro w hSw
            try dsimp only at hSw
            go_simp
            try with_reducible rfl
          simp only [Act.put, List.setIfInBounds_toArray, List.set_cons_zero, List.set_cons_succ]
          refine wpAnyH_take (i := 3) (oi := ⟨some 21, _, _, _, _, _⟩) (v := ?_) rfl (by kernel_rfl) (by kernel_rfl) (by kernel_rfl) (fun _ _ _ h => h) (Or.inl ⟨by rfl, ?_⟩) (by assumption) ?_
          rotate_left
          · intro w hSw
            try dsimp only at hSw
            go_simp
            try with_reducible rfl
          simp only [Act.put, List.setIfInBounds_toArray, List.set_cons_zero, List.set_cons_succ]
          refine wpAnyH_take (i := 4) (oi := ⟨some 22, _, _, _, _, _⟩) (v := undef) rfl (by kernel_rfl) (by kernel_rfl) (by kernel_rfl) (fun _ _ _ h => h) (Or.inr ⟨by rfl, rfl⟩) (by assumption) ?_
          simp only [Act.put, List.setIfInBounds_toArray, List.set_cons_zero, List.set_cons_succ]
          refine wpAnyH_take (i := 5) (oi := ⟨some 23, _, _, _, _, _⟩) (v := undef) rfl (by kernel_rfl) (by kernel_rfl) (by kernel_rfl) (fun _ _ _ h => h) (Or.inr ⟨by rfl, rfl⟩) (by assumption) ?_
          simp only [Act.put, List.setIfInBounds_toArray, List.set_cons_zero, List.set_cons_succ]
          refine wpAnyH_take (i := 6) (oi := ⟨some 24, _, _, _, _, _⟩) (v := undef) rfl (by kernel_rfl) (by kernel_rfl) (by kernel_rfl) (fun _ _ _ h => h) (Or.inr ⟨by rfl, rfl⟩) (by assumption) ?_
          simp only [Act.put, List.setIfInBounds_toArray, List.set_cons_zero, List.set_cons_succ]
          refine wpAnyH_take (i := 7) (oi := ⟨some 25, _, _, _, _, _⟩) (v := undef) rfl (by kernel_rfl) (by kernel_rfl) (by kernel_rfl) (fun _ _ _ h => h) (Or.inr ⟨by rfl, rfl⟩) (by assumption) ?_
          simp only [Act.put, List.setIfInBounds_toArray, List.set_cons_zero, List.set_cons_succ]
          refine wpAnyH_take (i := 8) (oi := ⟨some 26, _, _, _, _, _⟩) (v := undef) rfl (by kernel_rfl) (by kernel_rfl) (by kernel_rfl) (fun _ _ _ h => h) (Or.inr ⟨by rfl, rfl⟩) (by assumption) ?_
          simp only [Act.put, List.setIfInBounds_toArray, List.set_cons_zero, List.set_cons_succ]
          refine wpAnyH_take (i := 9) (oi := ⟨some 27, _, _, _, _, _⟩) (v := undef) rfl (by kernel_rfl) (by kernel_rfl) (by kernel_rfl) (fun _ _ _ h => h) (Or.inr ⟨by rfl, rfl⟩) (by assumption) ?_
          simp only [Act.put, List.setIfInBounds_toArray, List.set_cons_zero, List.set_cons_succ]
          refine wpAnyH_take (i := 10) (oi := ⟨some 28, _, _, _, _, _⟩) (v := undef) rfl (by kernel_rfl) (by kernel_rfl) (by kernel_rfl) (fun _ _ _ h => h) (Or.inr ⟨by rfl, rfl⟩) (by assumption) ?_
          simp only [Act.put, List.setIfInBounds_toArray, List.set_cons_zero, List.set_cons_succ]
          refine wpAnyH_take (i := 11) (oi := ⟨some 29, _, _, _, _, _⟩) (v := undef) rfl (by kernel_rfl) (by kernel_rfl) (by kernel_rfl) (fun _ _ _ h => h) (Or.inr ⟨by rfl, rfl⟩) (by assumption) ?_
          simp only [Act.put, List.setIfInBounds_toArray, List.set_cons_zero, List.set_cons_succ]
          refine wpAnyH_take (i := 12) (oi := ⟨some 30, _, _, _, _, _⟩) (v := undef) rfl (by kernel_rfl) (by kernel_rfl) (by kernel_rfl) (fun _ _ _ h => h) (Or.inr ⟨by rfl, rfl⟩) (by assumption) ?_
          simp only [Act.put, List.setIfInBounds_toArray, List.set_cons_zero, List.set_cons_succ]
          refine wpAnyH_take (i := 13) (oi := ⟨some 31, _, _, _, _, _⟩) (v := undef) rfl (by kernel_rfl) (by kernel_rfl) (by kernel_rfl) (fun _ _ _ h => h) (Or.inr ⟨by rfl, rfl⟩) (by assumption) ?_
          simp only [Act.put, List.setIfInBounds_toArray, List.set_cons_zero, List.set_cons_succ]
          refine wpAnyH_take (i := 14) (oi := ⟨some 32, _, _, _, _, _⟩) (v := undef) rfl (by kernel_rfl) (by kernel_rfl) (by kernel_rfl) (fun _ _ _ h => h) (Or.inr ⟨by rfl, rfl⟩) (by assumption) ?_
          simp only [Act.put, List.setIfInBounds_toArray, List.set_cons_zero, List.set_cons_succ]
          refine wpAnyH_take (i := 15) (oi := ⟨some 33, _, _, _, _, _⟩) (v := undef) rfl (by kernel_rfl) (by kernel_rfl) (by kernel_rfl) (fun _ _ _ h => h) (Or.inr ⟨by rfl, rfl⟩) (by assumption) ?_
          simp only [Act.put, List.setIfInBounds_toArray, List.set_cons_zero, List.set_cons_succ]
          refine wpAnyH_take (i := 16) (oi := ⟨some 34, _, _, _, _, _⟩) (v := ?_) rfl (by kernel_rfl) (by kernel_rfl) (by kernel_rfl) (fun _ _ _ h => h) (Or.inl ⟨by rfl, ?_⟩) (by assumption) ?_
          rotate_left
          · intro w hSw
            try dsimp only at hSw
            go_simp
            try with_reducible rfl
          simp only [Act.put, List.setIfInBounds_toArray, List.set_cons_zero, List.set_cons_succ]
          refine wpAnyH_done (by kernel_rfl) ?_ _
          go_wp2_with fail
          go_roundw
          case rel =>
            obtain ⟨f1, f2, f3, f4, f5, f6⟩ := HX.out
            obtain ⟨n1, n2⟩ := ins_next HOr.out HR.out.1 f2 f3 f5 f6 HR.out.2.2 (by intro L0 x h; rw [HL.out] at h; simp at h)
            refine ⟨k + 1, I + 1, L1 ++ y :: L2, by omega, by omega, by go_num, by have := HI.out; omega, by rw [f1]; exact n1, n2, ?_, HGi.out.trans grown_drew⟩
            have h := HOi.out.drewR
            simpa using h
          case measure => simp [intOf]; omega
        · have hjl : a < j := by rw [hj, hL]; simp
          obtain ⟨J, hJ⟩ : ∃ J, J = j - 1 := ⟨_, rfl⟩
          have hJi : (j : Int) - 1 = (J : Int) := by omega
          have hJn : J < n := by omega
          have wJ : IntKind.i64.wrap (J : Int) = (J : Int) := by rw [← w64P, wrap64]; omega
          have hJ0 : (0 : Int) ≤ (J : Int) := by omega
          have hJ1 : (J : Int) < (n : Int) := by omega
          have hJj : J < j := by omega
          have hxA : A x := HX.out.2.2.2.2.1 x (by rw [hR, hL]; simp)
          have hyA : A y := HX.out.2.2.2.2.2
          have e1 : p ++ (L1 ++ (y :: (L2 ++ (X.drop (k + 1) ++ q)))) = (p ++ L0) ++ x :: ([] ++ y :: (L2 ++ (X.drop (k + 1) ++ q))) := by rw [hL]; simp
          rw [e1] at hown
          have hgi := (OwnR.lt hown g rfl).2
          have hlp := HF.out.1
          obtain ⟨-, ⟨x0, x1, x2, x3⟩, ⟨y0, y1, y2, y3⟩, hf, hs⟩ := hown.swap J j (by rw [List.length_append]; rw [hL] at hj; simp at hj; omega) (by rw [List.length_append]; rw [hL] at hj; simp at hj ⊢; omega)
          have HOs := hidP hown
          have HK := hidP (HC.out y x hyA hxA)
          have HJ := hidP (And.intro hJ hL)
          clear hR hj hL2 hown hgr e1 hlp hJ hf hs hL
          go_wp2_with fail
          by_cases hcl : c y x < 0
          · have dcl : decide (c y x < 0) = true := decide_eq_true hcl
            refine wp_region_held_drew (S := (fun v => v.cell? ⟨g, J * 4, none⟩ = some (.bool x.s) ∧ v.cell? ⟨g, J * 4 + 1, none⟩ = some (.int .i64 x.H.toInt) ∧ v.cell? ⟨g, J * 4 + 2, none⟩ = some (.int .i64 x.L.toInt) ∧ v.cell? ⟨g, J * 4 + 3, none⟩ = some (.int .i64 x.b) ∧ v.cell? ⟨g, j * 4, none⟩ = some (.bool y.s) ∧ v.cell? ⟨g, j * 4 + 1, none⟩ = some (.int .i64 y.H.toInt) ∧ v.cell? ⟨g, j * 4 + 2, none⟩ = some (.int .i64 y.L.toInt) ∧ v.cell? ⟨g, j * 4 + 3, none⟩ = some (.int .i64 y.b))) (by kernel_rfl) ?_ (fun hHeld => ?_)
            · try dsimp only
              exact keepS (Below.refl _ _).drew hgi ⟨x0, x1, x2, x3, y0, y1, y2, y3⟩
            refine wpAnyH_take (i := 0) (oi := ⟨some 18, _, _, _, _, _⟩) (v := ?_) rfl (by kernel_rfl) (by kernel_rfl) (by kernel_rfl) (fun _ _ _ h => h) (Or.inl ⟨by rfl, ?_⟩) (by assumption) ?_
            rotate_left
            · intro w hSw
              try dsimp only at hSw
              go_simp
              try with_reducible rfl
            simp only [Act.put, List.setIfInBounds_toArray, List.set_cons_zero, List.set_cons_succ]
            refine wpAnyH_take (i := 1) (oi := ⟨some 19, _, _, _, _, _⟩) (v := ?_) rfl (by kernel_rfl) (by kernel_rfl) (by kernel_rfl) (fun _ _ _ h => h) (Or.inl ⟨by rfl, ?_⟩) (by assumption) ?_
            rotate_left
            · intro w hSw
              try dsimp only at hSw
              go_simp
              try with_reducible rfl
            simp only [Act.put, List.setIfInBounds_toArray, List.set_cons_zero, List.set_cons_succ]
            refine wpAnyH_take (i := 2) (oi := ⟨some 20, _, _, _, _, _⟩) (v := ?_) rfl (by kernel_rfl) (by kernel_rfl) (by kernel_rfl) (fun _ _ _ h => h) (Or.inl ⟨by rfl, ?_⟩) (by assumption) ?_
            rotate_left
            · intro w hSw
              try dsimp only at hSw
              go_simp
              try with_reducible rfl
            simp only [Act.put, List.setIfInBounds_toArray, List.set_cons_zero, List.set_cons_succ]
            refine wpAnyH_take (i := 3) (oi := ⟨some 21, _, _, _, _, _⟩) (v := ?_) rfl (by kernel_rfl) (by kernel_rfl) (by kernel_rfl) (fun _ _ _ h => h) (Or.inl ⟨by rfl, ?_⟩) (by assumption) ?_
            rotate_left
            · intro w hSw
              try dsimp only at hSw
              go_simp
              try with_reducible rfl
            simp only [Act.put, List.setIfInBounds_toArray, List.set_cons_zero, List.set_cons_succ]
            refine wpAnyH_take (i := 4) (oi := ⟨some 22, _, _, _, _, _⟩) (v := ?_) rfl (by kernel_rfl) (by kernel_rfl) (by kernel_rfl) (fun _ _ _ h => h) (Or.inl ⟨by rfl, ?_⟩) (by assumption) ?_
            rotate_left
            · intro w hSw
              try dsimp only at hSw
              go_simp
              try with_reducible rfl
            simp only [Act.put, List.setIfInBounds_toArray, List.set_cons_zero, List.set_cons_succ]
            refine wpAnyH_take (i := 5) (oi := ⟨some 23, _, _, _, _, _⟩) (v := ?_) rfl (by kernel_rfl) (by kernel_rfl) (by kernel_rfl) (fun _ _ _ h => h) (Or.inl ⟨by rfl, ?_⟩) (by assumption) ?_
            rotate_left
            · intro w hSw
              try dsimp only at hSw
              go_simp
              try with_reducible rfl
            simp only [Act.put, List.setIfInBounds_toArray, List.set_cons_zero, List.set_cons_succ]
            refine wpAnyH_take (i := 6) (oi := ⟨some 24, _, _, _, _, _⟩) (v := ?_) rfl (by kernel_rfl) (by kernel_rfl) (by kernel_rfl) (fun _ _ _ h => h) (Or.inl ⟨by rfl, ?_⟩) (by assumption) ?_
            rotate_left
            · intro w hSw
              try dsimp only at hSw
              go_simp
              try with_reducible rfl
            simp only [Act.put, List.setIfInBounds_toArray, List.set_cons_zero, List.set_cons_succ]
            refine wpAnyH_take (i := 7) (oi := ⟨some 25, _, _, _, _, _⟩) (v := ?_) rfl (by kernel_rfl) (by kernel_rfl) (by kernel_rfl) (fun _ _ _ h => h) (Or.inl ⟨by rfl, ?_⟩) (by assumption) ?_
            rotate_left
            · intro w hSw
              try dsimp only at hSw
              go_simp
              try with_reducible rfl
            simp only [Act.put, List.setIfInBounds_toArray, List.set_cons_zero, List.set_cons_succ]
            refine wpAnyH_take (i := 8) (oi := ⟨some 26, _, _, _, _, _⟩) (v := ?_) rfl (by kernel_rfl) (by kernel_rfl) (by kernel_rfl) (fun _ _ _ h => h) (Or.inl ⟨by rfl, ?_⟩) (by assumption) ?_
            rotate_left
            · intro w hSw
              try dsimp only at hSw
              go_simp
              try with_reducible rfl
            simp only [Act.put, List.setIfInBounds_toArray, List.set_cons_zero, List.set_cons_succ]
            refine wpAnyH_take (i := 9) (oi := ⟨some 27, _, _, _, _, _⟩) (v := ?_) rfl (by kernel_rfl) (by kernel_rfl) (by kernel_rfl) (fun _ _ _ h => h) (Or.inl ⟨by rfl, ?_⟩) (by assumption) ?_
            rotate_left
            · intro w hSw
              try dsimp only at hSw
              go_simp
              try with_reducible rfl
            simp only [Act.put, List.setIfInBounds_toArray, List.set_cons_zero, List.set_cons_succ]
            refine wpAnyH_take (i := 10) (oi := ⟨some 28, _, _, _, _, _⟩) (v := ?_) rfl (by kernel_rfl) (by kernel_rfl) (by kernel_rfl) (fun _ _ _ h => h) (Or.inl ⟨by rfl, ?_⟩) (by assumption) ?_
            rotate_left
            · intro w hSw
              try dsimp only at hSw
              go_simp
              try with_reducible rfl
            simp only [Act.put, List.setIfInBounds_toArray, List.set_cons_zero, List.set_cons_succ]
            refine wpAnyH_take (i := 11) (oi := ⟨some 29, _, _, _, _, _⟩) (v := ?_) rfl (by kernel_rfl) (by kernel_rfl) (by kernel_rfl) (fun _ _ _ h => h) (Or.inl ⟨by rfl, ?_⟩) (by assumption) ?_
            rotate_left
            · intro w hSw
              try dsimp only at hSw
              go_simp
              try with_reducible rfl
            simp only [Act.put, List.setIfInBounds_toArray, List.set_cons_zero, List.set_cons_succ]
            refine wpAnyH_take (i := 12) (oi := ⟨some 30, _, _, _, _, _⟩) (v := ?_) rfl (by kernel_rfl) (by kernel_rfl) (by kernel_rfl) (fun _ _ _ h => h) (Or.inl ⟨by rfl, ?_⟩) (by assumption) ?_
            rotate_left
            · intro w hSw
              try dsimp only at hSw
              go_simp
              try with_reducible rfl
            simp only [Act.put, List.setIfInBounds_toArray, List.set_cons_zero, List.set_cons_succ]
            refine wpAnyH_take (i := 13) (oi := ⟨some 31, _, _, _, _, _⟩) (v := ?_) rfl (by kernel_rfl) (by kernel_rfl) (by kernel_rfl) (fun _ _ _ h => h) (Or.inl ⟨by rfl, ?_⟩) (by assumption) ?_
            rotate_left
            · intro w hSw
              try dsimp only at hSw
              go_simp
              try with_reducible rfl
            simp only [Act.put, List.setIfInBounds_toArray, List.set_cons_zero, List.set_cons_succ]
            refine wpAnyH_ready (rs := [14]) (by kernel_rfl) (by simp) ?_
            refine AllReadyH.cons rfl (fun K hK => ?_) AllReadyH.nil
            go_simp
            go_wp2_with (first | (go_at_call 30; refine (HK.out _).mono ?_; rintro e w2 ⟨rfl, hb2⟩; have hr2 : Below wr.heap.size wr w2 := (Below.refl _ wr).drew.trans (hb2.mono (by simp))))
            refine hK.out _ _ ?_ (fun hHeld => ?_)
            · try dsimp only
              exact keepS hr2 hgi ⟨x0, x1, x2, x3, y0, y1, y2, y3⟩
            clear hK K
            refine wpAnyH_take (i := 15) (oi := ⟨some 33, _, _, _, _, _⟩) (v := ?_) rfl (by kernel_rfl) (by kernel_rfl) (by kernel_rfl) (fun _ _ _ h => h) (Or.inl ⟨by rfl, ?_⟩) (by assumption) ?_
            rotate_left
            · intro w hSw
              try dsimp only at hSw
              go_simp
              try with_reducible rfl
            simp only [Act.put, List.setIfInBounds_toArray, List.set_cons_zero, List.set_cons_succ]
            refine wpAnyH_take (i := 16) (oi := ⟨some 34, _, _, _, _, _⟩) (v := ?_) rfl (by kernel_rfl) (by kernel_rfl) (by kernel_rfl) (fun _ _ _ h => h) (Or.inl ⟨by rfl, ?_⟩) (by assumption) ?_
            rotate_left
            · intro w hSw
              try dsimp only at hSw
              go_simp
              try with_reducible rfl
            simp only [Act.put, List.setIfInBounds_toArray, List.set_cons_zero, List.set_cons_succ]
            refine wpAnyH_done (by kernel_rfl) ?_ _
            have hown2 := HOs.out.later hr2
            have HG2 := hidP (HGi.out.trans (below_grown' hr2 _))
            have hj' := HR.out.2.1
            have hL' := HJ.out.2
            have hF' := HF.out.1
            have hJ' := HJ.out.1
            obtain ⟨-, ⟨x0', x1', x2', x3'⟩, ⟨y0', y1', y2', y3'⟩, hf, hs⟩ := hown2.swap J j (by rw [List.length_append]; rw [hL'] at hj'; simp at hj'; omega) (by rw [List.length_append]; rw [hL'] at hj'; simp at hj' ⊢; omega)
            have HS := hidP (hown2.swapR J j (by rw [List.length_append]; rw [hL'] at hj'; simp at hj'; omega) (by rw [List.length_append]; rw [hL'] at hj'; simp at hj' ⊢; omega))
            have f0 := hf (J * 4)
            have f1 := hf (J * 4 + 1)
            have f2 := hf (J * 4 + 2)
            have f3 := hf (J * 4 + 3)
            have k0 := hf (j * 4)
            have k1 := hf (j * 4 + 1)
            have k2 := hf (j * 4 + 2)
            have k3 := hf (j * 4 + 3)
            clear hown2 hs hf hj' hL' hF' hJ' hr2 x0 x1 x2 x3 y0 y1 y2 y3 hHeld hb2
            go_wp2_with fail
            go_region
            all_goals
              go_wp2_with fail
              go_roundw
              case rel =>
                obtain ⟨r1, r2, r3⟩ := HR.out
                obtain ⟨q1, q2⟩ := HJ.out
                refine ⟨J, L0, x :: L2, rfl, by rw [r1, q2]; simp, by rw [q2] at r2; simp at r2; omega, fun z hz => ?_, ?_, ((HG2.out.trans grown_four).trans grown_four).trans grown_drew⟩
                · rcases List.mem_cons.1 hz with rfl | hz
                  · exact hcl
                  · exact r3 z hz
                · have h := HS.out.drewR
                  simpa using h
              case measure => simp [intOf]; omega
          · have dcl : decide (c y x < 0) = false := decide_eq_false hcl
            refine wp_region_held_drew (S := (fun v => v.cell? ⟨g, J * 4, none⟩ = some (.bool x.s) ∧ v.cell? ⟨g, J * 4 + 1, none⟩ = some (.int .i64 x.H.toInt) ∧ v.cell? ⟨g, J * 4 + 2, none⟩ = some (.int .i64 x.L.toInt) ∧ v.cell? ⟨g, J * 4 + 3, none⟩ = some (.int .i64 x.b) ∧ v.cell? ⟨g, j * 4, none⟩ = some (.bool y.s) ∧ v.cell? ⟨g, j * 4 + 1, none⟩ = some (.int .i64 y.H.toInt) ∧ v.cell? ⟨g, j * 4 + 2, none⟩ = some (.int .i64 y.L.toInt) ∧ v.cell? ⟨g, j * 4 + 3, none⟩ = some (.int .i64 y.b))) (by kernel_rfl) ?_ (fun hHeld => ?_)
            · try dsimp only
              exact keepS (Below.refl _ _).drew hgi ⟨x0, x1, x2, x3, y0, y1, y2, y3⟩
            refine wpAnyH_take (i := 0) (oi := ⟨some 18, _, _, _, _, _⟩) (v := ?_) rfl (by kernel_rfl) (by kernel_rfl) (by kernel_rfl) (fun _ _ _ h => h) (Or.inl ⟨by rfl, ?_⟩) (by assumption) ?_
            rotate_left
            · intro w hSw
              try dsimp only at hSw
              go_simp
              try with_reducible rfl
            simp only [Act.put, List.setIfInBounds_toArray, List.set_cons_zero, List.set_cons_succ]
            refine wpAnyH_take (i := 1) (oi := ⟨some 19, _, _, _, _, _⟩) (v := ?_) rfl (by kernel_rfl) (by kernel_rfl) (by kernel_rfl) (fun _ _ _ h => h) (Or.inl ⟨by rfl, ?_⟩) (by assumption) ?_
            rotate_left
            · intro w hSw
              try dsimp only at hSw
              go_simp
              try with_reducible rfl
            simp only [Act.put, List.setIfInBounds_toArray, List.set_cons_zero, List.set_cons_succ]
            refine wpAnyH_take (i := 2) (oi := ⟨some 20, _, _, _, _, _⟩) (v := ?_) rfl (by kernel_rfl) (by kernel_rfl) (by kernel_rfl) (fun _ _ _ h => h) (Or.inl ⟨by rfl, ?_⟩) (by assumption) ?_
            rotate_left
            · intro w hSw
              try dsimp only at hSw
              go_simp
              try with_reducible rfl
            simp only [Act.put, List.setIfInBounds_toArray, List.set_cons_zero, List.set_cons_succ]
            refine wpAnyH_take (i := 3) (oi := ⟨some 21, _, _, _, _, _⟩) (v := ?_) rfl (by kernel_rfl) (by kernel_rfl) (by kernel_rfl) (fun _ _ _ h => h) (Or.inl ⟨by rfl, ?_⟩) (by assumption) ?_
            rotate_left
            · intro w hSw
              try dsimp only at hSw
              go_simp
              try with_reducible rfl
            simp only [Act.put, List.setIfInBounds_toArray, List.set_cons_zero, List.set_cons_succ]
            refine wpAnyH_take (i := 4) (oi := ⟨some 22, _, _, _, _, _⟩) (v := ?_) rfl (by kernel_rfl) (by kernel_rfl) (by kernel_rfl) (fun _ _ _ h => h) (Or.inl ⟨by rfl, ?_⟩) (by assumption) ?_
            rotate_left
            · intro w hSw
              try dsimp only at hSw
              go_simp
              try with_reducible rfl
            simp only [Act.put, List.setIfInBounds_toArray, List.set_cons_zero, List.set_cons_succ]
            refine wpAnyH_take (i := 5) (oi := ⟨some 23, _, _, _, _, _⟩) (v := ?_) rfl (by kernel_rfl) (by kernel_rfl) (by kernel_rfl) (fun _ _ _ h => h) (Or.inl ⟨by rfl, ?_⟩) (by assumption) ?_
            rotate_left
            · intro w hSw
              try dsimp only at hSw
              go_simp
              try with_reducible rfl
            simp only [Act.put, List.setIfInBounds_toArray, List.set_cons_zero, List.set_cons_succ]
            refine wpAnyH_take (i := 6) (oi := ⟨some 24, _, _, _, _, _⟩) (v := ?_) rfl (by kernel_rfl) (by kernel_rfl) (by kernel_rfl) (fun _ _ _ h => h) (Or.inl ⟨by rfl, ?_⟩) (by assumption) ?_
            rotate_left
            · intro w hSw
              try dsimp only at hSw
              go_simp
              try with_reducible rfl
            simp only [Act.put, List.setIfInBounds_toArray, List.set_cons_zero, List.set_cons_succ]
            refine wpAnyH_take (i := 7) (oi := ⟨some 25, _, _, _, _, _⟩) (v := ?_) rfl (by kernel_rfl) (by kernel_rfl) (by kernel_rfl) (fun _ _ _ h => h) (Or.inl ⟨by rfl, ?_⟩) (by assumption) ?_
            rotate_left
            · intro w hSw
              try dsimp only at hSw
              go_simp
              try with_reducible rfl
            simp only [Act.put, List.setIfInBounds_toArray, List.set_cons_zero, List.set_cons_succ]
            refine wpAnyH_take (i := 8) (oi := ⟨some 26, _, _, _, _, _⟩) (v := ?_) rfl (by kernel_rfl) (by kernel_rfl) (by kernel_rfl) (fun _ _ _ h => h) (Or.inl ⟨by rfl, ?_⟩) (by assumption) ?_
            rotate_left
            · intro w hSw
              try dsimp only at hSw
              go_simp
              try with_reducible rfl
            simp only [Act.put, List.setIfInBounds_toArray, List.set_cons_zero, List.set_cons_succ]
            refine wpAnyH_take (i := 9) (oi := ⟨some 27, _, _, _, _, _⟩) (v := ?_) rfl (by kernel_rfl) (by kernel_rfl) (by kernel_rfl) (fun _ _ _ h => h) (Or.inl ⟨by rfl, ?_⟩) (by assumption) ?_
            rotate_left
            · intro w hSw
              try dsimp only at hSw
              go_simp
              try with_reducible rfl
            simp only [Act.put, List.setIfInBounds_toArray, List.set_cons_zero, List.set_cons_succ]
            refine wpAnyH_take (i := 10) (oi := ⟨some 28, _, _, _, _, _⟩) (v := ?_) rfl (by kernel_rfl) (by kernel_rfl) (by kernel_rfl) (fun _ _ _ h => h) (Or.inl ⟨by rfl, ?_⟩) (by assumption) ?_
            rotate_left
            · intro w hSw
              try dsimp only at hSw
              go_simp
              try with_reducible rfl
            simp only [Act.put, List.setIfInBounds_toArray, List.set_cons_zero, List.set_cons_succ]
            refine wpAnyH_take (i := 11) (oi := ⟨some 29, _, _, _, _, _⟩) (v := ?_) rfl (by kernel_rfl) (by kernel_rfl) (by kernel_rfl) (fun _ _ _ h => h) (Or.inl ⟨by rfl, ?_⟩) (by assumption) ?_
            rotate_left
            · intro w hSw
              try dsimp only at hSw
              go_simp
              try with_reducible rfl
            simp only [Act.put, List.setIfInBounds_toArray, List.set_cons_zero, List.set_cons_succ]
            refine wpAnyH_take (i := 12) (oi := ⟨some 30, _, _, _, _, _⟩) (v := ?_) rfl (by kernel_rfl) (by kernel_rfl) (by kernel_rfl) (fun _ _ _ h => h) (Or.inl ⟨by rfl, ?_⟩) (by assumption) ?_
            rotate_left
            · intro w hSw
              try dsimp only at hSw
              go_simp
              try with_reducible rfl
            simp only [Act.put, List.setIfInBounds_toArray, List.set_cons_zero, List.set_cons_succ]
            refine wpAnyH_take (i := 13) (oi := ⟨some 31, _, _, _, _, _⟩) (v := ?_) rfl (by kernel_rfl) (by kernel_rfl) (by kernel_rfl) (fun _ _ _ h => h) (Or.inl ⟨by rfl, ?_⟩) (by assumption) ?_
            rotate_left
            · intro w hSw
              try dsimp only at hSw
              go_simp
              try with_reducible rfl
            simp only [Act.put, List.setIfInBounds_toArray, List.set_cons_zero, List.set_cons_succ]
            refine wpAnyH_ready (rs := [14]) (by kernel_rfl) (by simp) ?_
            refine AllReadyH.cons rfl (fun K hK => ?_) AllReadyH.nil
            go_simp
            go_wp2_with (first | (go_at_call 30; refine (HK.out _).mono ?_; rintro e w2 ⟨rfl, hb2⟩; have hr2 : Below wr.heap.size wr w2 := (Below.refl _ wr).drew.trans (hb2.mono (by simp))))
            refine hK.out _ _ ?_ (fun hHeld => ?_)
            · try dsimp only
              exact keepS hr2 hgi ⟨x0, x1, x2, x3, y0, y1, y2, y3⟩
            clear hK K
            refine wpAnyH_take (i := 15) (oi := ⟨some 33, _, _, _, _, _⟩) (v := ?_) rfl (by kernel_rfl) (by kernel_rfl) (by kernel_rfl) (fun _ _ _ h => h) (Or.inl ⟨by rfl, ?_⟩) (by assumption) ?_
            rotate_left
            · intro w hSw
              try dsimp only at hSw
              go_simp
              try with_reducible rfl
            simp only [Act.put, List.setIfInBounds_toArray, List.set_cons_zero, List.set_cons_succ]
            refine wpAnyH_take (i := 16) (oi := ⟨some 34, _, _, _, _, _⟩) (v := ?_) rfl (by kernel_rfl) (by kernel_rfl) (by kernel_rfl) (fun _ _ _ h => h) (Or.inl ⟨by rfl, ?_⟩) (by assumption) ?_
            rotate_left
            · intro w hSw
              try dsimp only at hSw
              go_simp
              try with_reducible rfl
            simp only [Act.put, List.setIfInBounds_toArray, List.set_cons_zero, List.set_cons_succ]
            refine wpAnyH_done (by kernel_rfl) ?_ _
            have HO2 := hidP (HOi.out.later hr2)
            have HG2 := hidP (HGi.out.trans (below_grown' hr2 _))
            clear hr2 x0 x1 x2 x3 y0 y1 y2 y3 hHeld hb2
            go_wp2_with fail
            go_roundw
            case rel =>
              obtain ⟨f1, f2, f3, f4, f5, f6⟩ := HX.out
              obtain ⟨n1, n2⟩ := ins_next HOr.out HR.out.1 f2 f3 f5 f6 HR.out.2.2 (by intro L0' x' h; rw [HJ.out.2] at h; simp at h; rw [← h.2]; omega)
              refine ⟨k + 1, I + 1, L1 ++ y :: L2, by omega, by omega, by go_num, by have := HI.out; omega, by rw [f1]; exact n1, n2, ?_, HG2.out⟩
              have h := HO2.out
              simpa using h
            case measure => simp [intOf]; omega
    · have hE : OwnR 55 wr B (.slice (some ⟨g, 0, none⟩) n cap) (p ++ (R ++ q)) ∧ R.Perm X := by
        have hk : X.length ≤ k := by have := HF.out; omega
        rw [List.drop_of_length_le hk, List.nil_append] at hown
        rw [List.take_of_length_le hk] at hpm
        exact ⟨hown, hpm⟩
      have HE := hidP hE
      have HSt := hidP hst
      have HG := hidP hgr
      clear hE hown hpm hst hgr HO
      go_wp2_with fail
      exact bodyPost_end (v := .tuple #[]) (by simp [results, Try.results89]) rfl ⟨⟨_, rfl⟩, ⟨R, HE.out.2, HSt.out, HE.out.1⟩, HG.out⟩

end Go.Proofs.Ytgohffeneibhdaa
