/-
  The specification's l7Draw: some desk of at most twelve sessions, in memory of its own.
-/
import Derived.Test.YtjenbmiiikeenaaWDk
import Derived.Deep.RegionHeld3
namespace Go.Proofs.Ytjenbmiiikeenaa
open Go.RowKit

theorem DkI.fin {c : Nat} {a : Option Addr} {len cap : Nat} {W X : World} {b : Option Addr} {n d : Nat} {N : Int} {ls : List Ss} (h : DkI c a len cap W X b n d N ls) (u v : Value) :
    Cur ((X.setCell ⟨W.heap.size, 0, none⟩ u).setCell ⟨W.heap.size, 1, none⟩ v) c a len cap ∧ Kp c W ((X.setCell ⟨W.heap.size, 0, none⟩ u).setCell ⟨W.heap.size, 1, none⟩ v) ∧ OwnG KSs 39 ((X.setCell ⟨W.heap.size, 0, none⟩ u).setCell ⟨W.heap.size, 1, none⟩ v) W.heap.size (.slice b n d) ls := by
  have h1 := h.hc; have h2 := h.sz
  exact ⟨(h.cur.far (by omega) _).far (by omega) _, (h.kp.setNew h.hc (by omega) _).setNew h.hc (by omega) _, OwnG.mono (OwnG.grown (OwnG.grown h.own (grown_cellG _ _ _ _) (OwnG.ne_of h.own (by omega))) (grown_cellG _ _ _ _) (OwnG.ne_of h.own (by omega))) (by omega)⟩
theorem own1 {t : TypeId} {w : World} {B g n cap : Nat} {ls : List Ss} (h : OwnG KSs t w B (.slice (some ⟨g, 0, none⟩) n cap) ls) (q : Ss) (z : Int) (hq : ls[0]? = some q) :
    OwnG KSs t (w.setCell ⟨g, 1, none⟩ (.int .i64 z)) B (.slice (some ⟨g, 0, none⟩) n cap) (ls.set 0 ⟨q.i, z, q.t, q.u⟩) := by
  have hn := h.caps.1
  subst hn
  have := puts_own [.int .i64 z] w _ 1 h
  cases ls with
  | nil => simp at hq
  | cons x t =>
    simp at hq
    subst hq
    unfold OwnG
    rw [List.length_set]
    exact this
theorem DkI.putL {c : Nat} {a : Option Addr} {len cap : Nat} {W X : World} {g n d : Nat} {N : Int} {ls : List Ss} (h : DkI c a len cap W X (some ⟨g, 0, none⟩) n d N ls) (q : Ss) (z : Int) (hq : ls[0]? = some q) :
    DkI c a len cap W (X.setCell ⟨g, 1, none⟩ (.int .i64 z)) (some ⟨g, 0, none⟩) n d N (ls.set 0 ⟨q.i, z, q.t, q.u⟩) := by
  have h1 := h.hc; have h2 := h.sz
  have h3 := (OwnG.lt h.own g rfl).1
  exact ⟨h.cur.far (by omega) _, h.kp.setNew h.hc (by omega) _, h.hc, by simpa using h.sz, cell_set1 h.r0 (by omega), cell_set1 h.r1 (by omega), fun o => frz_set1 (h.rF o), cell_set1 h.d0 (by omega), cell_set1 h.d1 (by omega), fun o => frz_set1 (h.dF o), own1 h.own q z hq, h.few⟩
theorem DkI.elem {c : Nat} {a : Option Addr} {len cap : Nat} {W X : World} {g n d : Nat} {N : Int} {ls : List Ss} (h : DkI c a len cap W X (some ⟨g, 0, none⟩) n d N ls) {K : Nat} {q : Ss} (hq : ls[K]? = some q) : X.cell? ⟨g, K * 4 + 1, none⟩ = some (.int .i64 q.l) := by
  obtain ⟨q', _, hq', _, cc, _, _⟩ := rowSs0 h.own K (List.getElem?_eq_some_iff.1 hq).1
  rw [hq] at hq'
  cases hq'
  exact cc
theorem cells5 (w : World) (t : TypeId) (x0 x1 x2 x3 x4 : Int) : ∀ j, j < 5 → ∃ z, (fun _ : Int => True) z ∧ (w.alloc (.cells #[.int .i64 x0, .int .i64 x1, .int .i64 x2, .int .i64 x3, .int .i64 x4] t)).cell? ⟨w.heap.size, j, none⟩ = some (.int .i64 z) := fun j hj => by
  match j, hj with
  | 0, _ => exact ⟨x0, trivial, by simp [go_sem]⟩
  | 1, _ => exact ⟨x1, trivial, by simp [go_sem]⟩
  | 2, _ => exact ⟨x2, trivial, by simp [go_sem]⟩
  | 3, _ => exact ⟨x3, trivial, by simp [go_sem]⟩
  | 4, _ => exact ⟨x4, trivial, by simp [go_sem]⟩
theorem cells4 (w : World) (t : TypeId) (x0 x1 x2 x3 : Int) : ∀ j, j < 4 → ∃ z, (fun _ : Int => True) z ∧ (w.alloc (.cells #[.int .i64 x0, .int .i64 x1, .int .i64 x2, .int .i64 x3] t)).cell? ⟨w.heap.size, j, none⟩ = some (.int .i64 z) := fun j hj => by
  match j, hj with
  | 0, _ => exact ⟨x0, trivial, by simp [go_sem]⟩
  | 1, _ => exact ⟨x1, trivial, by simp [go_sem]⟩
  | 2, _ => exact ⟨x2, trivial, by simp [go_sem]⟩
  | 3, _ => exact ⟨x3, trivial, by simp [go_sem]⟩
theorem cellsT (w : World) (t : TypeId) (x0 x1 x2 : ByteArray) : ∀ j, j < 3 → ∃ z : ByteArray, (w.alloc (.cells #[.string x0, .string x1, .string x2] t)).cell? ⟨w.heap.size, j, none⟩ = some (.string z) := fun j hj => by
  match j, hj with
  | 0, _ => exact ⟨x0, by simp [go_sem]⟩
  | 1, _ => exact ⟨x1, by simp [go_sem]⟩
  | 2, _ => exact ⟨x2, by simp [go_sem]⟩

set_option maxRecDepth 10000 in
set_option maxHeartbeats 8000000 in
theorem l7Draw_any (c : Nat) (a : Option Addr) (len cap : Nat) (m : Int) (W : World) (hC : Cur W c a len cap) (hm : 0 < m) (hm9 : m ≤ 100) :
    Calls Try.prog 18 #[.pointer (some ⟨c, 0, none⟩), .int .i64 m] W fun e W' => ∃ b n d N ls, e = .returned (.agg #[.slice b n d, .int .i64 N]) ∧ n = ls.length ∧ n ≤ 12 ∧ OwnG KSs 39 W' W.heap.size (.slice b n d) ls ∧ Cur W' c a len cap ∧ Kp c W W' := by
  have HC := hidP hC
  have hcl := hC.lt
  clear hC
  go_enter Try.func18, Try.ntmps18
  go_wp2_with fail
  have HD := hidP (show DkI c a len cap W ((W.alloc (.cells #[.slice none 0 0, .int .i64 0] 26)).alloc (.cells #[.slice none 0 0, .int .i64 1] 26)) none 0 0 1 [] from by
    have b1 := alloc_below W (.cells #[.slice none 0 0, .int .i64 0] 26)
    have b2 := alloc_below (W.alloc (.cells #[.slice none 0 0, .int .i64 0] 26)) (.cells #[.slice none 0 0, .int .i64 1] 26)
    have s1 : (W.alloc (.cells #[.slice none 0 0, .int .i64 0] 26)).heap.size = W.heap.size + 1 := by simp
    have bb := b1.trans (b2.mono b1.size)
    exact ⟨HC.out.grew bb, Kp.of_below hcl bb, hcl, by simp, by simp [go_sem], by simp [go_sem], fun o => by simp [go_sem], by simp [go_sem], by simp [go_sem], fun o => by simp [go_sem], own_noneG KSs _ _ _, by omega⟩)
  generalize (W.alloc (.cells #[.slice none 0 0, .int .i64 0] 26)).alloc (.cells #[.slice none 0 0, .int .i64 1] 26) = W2 at *
  refine (l1Below_any c a len cap m _ HD.out.cur).mono ?_
  rintro e w3 ⟨⟨x, x0, x9, rfl⟩, hC3, hK3⟩
  have HD3 := hidP (HD.out.keep hC3 hK3)
  have hx9 := x9 hm
  obtain ⟨i0, rfl⟩ : ∃ j : Nat, x = (j : Int) := ⟨x.toNat, by omega⟩
  clear hC3 hK3 x9 HD HC
  go_wp2_with fail
  go_loopw [6, 7, 8] (fun t6 _ _ wr => ∃ (i : Nat) (b : Option Addr) (n d : Nat) (N : Int) (ls : List Ss), t6 = .int .i64 i ∧ i ≤ 100 ∧ 1 ≤ N ∧ N ≤ 1000000 ∧ DkI c a len cap W wr b n d N ls) (fun t6 _ _ _ => (intOf t6).toNat)
  case atStart => exact ⟨i0, none, 0, 0, 1, [], rfl, by omega, by omega, by omega, HD3.out⟩
  case round =>
    obtain ⟨i, b, n, d, N, ls, rfl, hi, hN0, hN1, hD⟩ := hrel
    have HD0 := hidP hD
    obtain ⟨hn, hnd, hd9, hbn⟩ := hD.caps
    have h12 := hD.few
    have HN := hidP (And.intro hn (And.intro hnd (And.intro hd9 hbn)))
    clear hD hn hnd hd9 hbn HD3 x0 hx9
    by_cases hi0 : 0 < i
    · have g0 : decide ((0 : Int) < (i : Int)) = true := decide_eq_true (by omega)
      have p0 := HD0.out.d0
      have p1 := HD0.out.d1
      go_wp2_with fail
      refine (l1Below_any c a len cap N _ HD0.out.cur).mono ?_
      rintro e w1 ⟨⟨x, x0, x9, rfl⟩, hC1, hK1⟩
      have HD1 := hidP (HD0.out.keep hC1 hK1)
      have hx9 := x9 (by omega)
      have wx : IntKind.i64.wrap (1 + x) = 1 + x := by rw [IntKind.wrap_i64]; omega
      clear hC1 hK1 x9 p0 p1
      have p0 := HD1.out.d0
      have p1 := HD1.out.d1
      go_wp2_with fail
      refine (l7Find_any b n d N ls _ HN.out.1 HD1.out.own.row (by omega) _).mono ?_
      rintro e w2 ⟨rfl, hb2⟩
      have HD2 := hidP (HD1.out.below hb2)
      clear hb2 p0 p1
      cases hf : findS (1 + x) ls with
      | none =>
        rw [fxS_none hf]
        clear hf
        go_wp2_with fail
        have HD2d := hidP (HD2.out.drew)
        refine wp_region_held_drew (S := fun _ => True) (by kernel_rfl) trivial (fun hHeld => ?_)
        refine wpAnyH_take (i := 1) (oi := ⟨some 52, _, _, _, _, _⟩) (v := ?_) rfl (by kernel_rfl) (by kernel_rfl) (by kernel_rfl) (fun _ _ _ h => h) (Or.inl ⟨by rfl, ?_⟩) (by assumption) ?_
        rotate_left
        · intro w hSw
          try dsimp only at hSw
          go_simp
          try with_reducible rfl
        simp only [Act.put, List.setIfInBounds_toArray, List.set_cons_zero, List.set_cons_succ]
        refine wpAnyH_ready (rs := [0, 2]) (by kernel_rfl) (by simp) ?_
        refine AllReadyH.cons rfl (fun K hK => ?_) (AllReadyH.cons rfl (fun K hK => ?_) AllReadyH.nil)
        · have l0 := HD2d.out.d0
          have l1 := HD2d.out.d1
          go_simp
          clear l0 l1
          refine hK.out _ _ trivial (fun hHeld => ?_)
          clear hK K
          refine wpAnyH_ready (rs := [2]) (by kernel_rfl) (by simp) ?_
          refine AllReadyH.cons rfl (fun K hK => ?_) AllReadyH.nil
          go_simp
          go_wp2_with (first | (go_at_call 23; refine (l1Below_any c a len cap 100 _ HD2d.out.cur).mono ?_; rintro e w5 ⟨⟨y, y0, y9, rfl⟩, hC5, hK5⟩))
          have HD5 := hidP (HD2d.out.keep hC5 hK5)
          clear hC5 hK5 y9
          refine hK.out _ _ trivial (fun hHeld => ?_)
          clear hK K
          refine wpAnyH_ready (rs := [3]) (by kernel_rfl) (by simp) ?_
          refine AllReadyH.cons rfl (fun K hK => ?_) AllReadyH.nil
          go_simp
          go_wp2_with (first | (go_at_call 15; refine (sOp12 b n d N ls _ HN.out.1 HD5.out.own.row HN.out.2.2.2 h12 hN0 hN1 _).mono ?_; rintro e w6 ⟨b', n', d', N', ls', y', rfl, ho, hn', hN0', hN1', hb6⟩))
          have HO := hidP (And.intro ho (And.intro hn' (And.intro hN0' hN1')))
          have HB := hidP HD5.out.sz
          have HD6 := hidP (HD5.out.below hb6)
          clear ho hn' hN0' hN1' hb6
          refine hK.out _ _ trivial (fun hHeld => ?_)
          clear hK K
          refine wpAnyH_take (i := 4) (oi := ⟨some 50, _, _, _, _, _⟩) (v := ?_) rfl (by kernel_rfl) (by kernel_rfl) (by kernel_rfl) (fun _ _ _ h => h) (Or.inl ⟨by rfl, ?_⟩) (by assumption) ?_
          rotate_left
          · intro w hSw
            try dsimp only at hSw
            go_simp
            try with_reducible rfl
          simp only [Act.put, List.setIfInBounds_toArray, List.set_cons_zero, List.set_cons_succ]
          refine wpAnyH_take (i := 5) (oi := ⟨some 55, _, _, _, _, _⟩) (v := ?_) rfl (by kernel_rfl) (by kernel_rfl) (by kernel_rfl) (fun _ _ _ h => h) (Or.inl ⟨by rfl, ?_⟩) (by assumption) ?_
          rotate_left
          · intro w hSw
            try dsimp only at hSw
            go_simp
            try with_reducible rfl
          simp only [Act.put, List.setIfInBounds_toArray, List.set_cons_zero, List.set_cons_succ]
          refine wpAnyH_take (i := 6) (oi := ⟨some 56, _, _, _, _, _⟩) (v := ?_) rfl (by kernel_rfl) (by kernel_rfl) (by kernel_rfl) (fun _ _ _ h => h) (Or.inl ⟨by rfl, ?_⟩) (by assumption) ?_
          rotate_left
          · intro w hSw
            try dsimp only at hSw
            go_simp
            try with_reducible rfl
          simp only [Act.put, List.setIfInBounds_toArray, List.set_cons_zero, List.set_cons_succ]
          refine wpAnyH_ready (rs := [7]) (by kernel_rfl) (by simp) ?_
          refine AllReadyH.cons rfl (fun K hK => ?_) AllReadyH.nil
          have s0 := HD6.out.d0
          have s1 := HD6.out.d1
          have sF := HD6.out.dF
          go_simp
          clear s0 s1 sF
          refine hK.out _ _ trivial (fun hHeld => ?_)
          clear hK K
          refine wpAnyH_done (by kernel_rfl) ?_ _
          clear hHeld
          go_wp2_with fail
          go_roundw
          case rel => exact ⟨i - 1, b', n', d', N', ls', by go_num, by omega, HO.out.2.2.1, HO.out.2.2.2, HD6.out.put HB.out HO.out.1 HO.out.2.1⟩
          case measure => simp [intOf]; omega
        · go_simp
          go_wp2_with (first | (go_at_call 23; refine (l1Below_any c a len cap 100 _ HD2d.out.cur).mono ?_; rintro e w5 ⟨⟨y, y0, y9, rfl⟩, hC5, hK5⟩))
          have HD5 := hidP (HD2d.out.keep hC5 hK5)
          clear hC5 hK5 y9
          refine hK.out _ _ trivial (fun hHeld => ?_)
          clear hK K
          refine wpAnyH_ready (rs := [0]) (by kernel_rfl) (by simp) ?_
          refine AllReadyH.cons rfl (fun K hK => ?_) AllReadyH.nil
          have l0 := HD5.out.d0
          have l1 := HD5.out.d1
          go_simp
          clear l0 l1
          refine hK.out _ _ trivial (fun hHeld => ?_)
          clear hK K
          refine wpAnyH_ready (rs := [3]) (by kernel_rfl) (by simp) ?_
          refine AllReadyH.cons rfl (fun K hK => ?_) AllReadyH.nil
          go_simp
          go_wp2_with (first | (go_at_call 15; refine (sOp12 b n d N ls _ HN.out.1 HD5.out.own.row HN.out.2.2.2 h12 hN0 hN1 _).mono ?_; rintro e w6 ⟨b', n', d', N', ls', y', rfl, ho, hn', hN0', hN1', hb6⟩))
          have HO := hidP (And.intro ho (And.intro hn' (And.intro hN0' hN1')))
          have HB := hidP HD5.out.sz
          have HD6 := hidP (HD5.out.below hb6)
          clear ho hn' hN0' hN1' hb6
          refine hK.out _ _ trivial (fun hHeld => ?_)
          clear hK K
          refine wpAnyH_take (i := 4) (oi := ⟨some 50, _, _, _, _, _⟩) (v := ?_) rfl (by kernel_rfl) (by kernel_rfl) (by kernel_rfl) (fun _ _ _ h => h) (Or.inl ⟨by rfl, ?_⟩) (by assumption) ?_
          rotate_left
          · intro w hSw
            try dsimp only at hSw
            go_simp
            try with_reducible rfl
          simp only [Act.put, List.setIfInBounds_toArray, List.set_cons_zero, List.set_cons_succ]
          refine wpAnyH_take (i := 5) (oi := ⟨some 55, _, _, _, _, _⟩) (v := ?_) rfl (by kernel_rfl) (by kernel_rfl) (by kernel_rfl) (fun _ _ _ h => h) (Or.inl ⟨by rfl, ?_⟩) (by assumption) ?_
          rotate_left
          · intro w hSw
            try dsimp only at hSw
            go_simp
            try with_reducible rfl
          simp only [Act.put, List.setIfInBounds_toArray, List.set_cons_zero, List.set_cons_succ]
          refine wpAnyH_take (i := 6) (oi := ⟨some 56, _, _, _, _, _⟩) (v := ?_) rfl (by kernel_rfl) (by kernel_rfl) (by kernel_rfl) (fun _ _ _ h => h) (Or.inl ⟨by rfl, ?_⟩) (by assumption) ?_
          rotate_left
          · intro w hSw
            try dsimp only at hSw
            go_simp
            try with_reducible rfl
          simp only [Act.put, List.setIfInBounds_toArray, List.set_cons_zero, List.set_cons_succ]
          refine wpAnyH_ready (rs := [7]) (by kernel_rfl) (by simp) ?_
          refine AllReadyH.cons rfl (fun K hK => ?_) AllReadyH.nil
          have s0 := HD6.out.d0
          have s1 := HD6.out.d1
          have sF := HD6.out.dF
          go_simp
          clear s0 s1 sF
          refine hK.out _ _ trivial (fun hHeld => ?_)
          clear hK K
          refine wpAnyH_done (by kernel_rfl) ?_ _
          clear hHeld
          go_wp2_with fail
          go_roundw
          case rel => exact ⟨i - 1, b', n', d', N', ls', by go_num, by omega, HO.out.2.2.1, HO.out.2.2.2, HD6.out.put HB.out HO.out.1 HO.out.2.1⟩
          case measure => simp [intOf]; omega
      | some K =>
        rw [fxS_some hf]
        obtain ⟨q, hq, _, hKl, _⟩ := findS_at hf
        have hKn : K < n := by rw [HN.out.1]; exact hKl
        have kd : decide ((K : Int) < 0) = false := decide_eq_false (by omega)
        have HQ := hidP hq
        clear hf hq hKl
        go_wp2_with fail
        refine (l1Once_any c a len cap 4 _ HD2.out.cur).mono ?_
        rintro e w3 ⟨⟨B, rfl⟩, hC3, hK3⟩
        have HD3 := hidP (HD2.out.keep hC3 hK3)
        clear hC3 hK3
        cases B
        · go_wp2_with fail
          refine (l1Once_any c a len cap 8 _ HD3.out.cur).mono ?_
          rintro e w4 ⟨⟨B, rfl⟩, hC4, hK4⟩
          have HD4 := hidP (HD3.out.keep hC4 hK4)
          clear hC4 hK4
          cases B
          · go_wp2_with fail
            obtain ⟨g, rfl⟩ := own_some HD4.out.own (by omega)
            have hgne : g ≠ W.heap.size + 1 := by have := (OwnG.lt HD4.out.own g rfl).1; omega
            have k0 : (0 : Int) ≤ (K : Int) := by omega
            have k1 : (K : Int) < (n : Int) := by omega
            have HD4d := hidP (HD4.out.drew)
            refine wp_region_held_drew (S := (fun X => X.cell? ⟨g, K * 4 + 1, none⟩ = some (.int .i64 q.l))) (by kernel_rfl) ?_ (fun hHeld => ?_)
            · try dsimp only
              exact HD4d.out.elem HQ.out
            refine wpAnyH_take (i := 1) (oi := ⟨some 27, _, _, _, _, _⟩) (v := ?_) rfl (by kernel_rfl) (by kernel_rfl) (by kernel_rfl) (fun _ _ _ h => h) (Or.inl ⟨by rfl, ?_⟩) (by assumption) ?_
            rotate_left
            · intro w hSw
              try dsimp only at hSw
              go_simp
              try with_reducible rfl
            simp only [Act.put, List.setIfInBounds_toArray, List.set_cons_zero, List.set_cons_succ]
            refine wpAnyH_take (i := 2) (oi := ⟨some 28, _, _, _, _, _⟩) (v := ?_) rfl (by kernel_rfl) (by kernel_rfl) (by kernel_rfl) (fun _ _ _ h => h) (Or.inl ⟨by rfl, ?_⟩) (by assumption) ?_
            rotate_left
            · intro w hSw
              try dsimp only at hSw
              go_simp
              try with_reducible rfl
            simp only [Act.put, List.setIfInBounds_toArray, List.set_cons_zero, List.set_cons_succ]
            refine wpAnyH_take (i := 4) (oi := ⟨some 30, _, _, _, _, _⟩) (v := ?_) rfl (by kernel_rfl) (by kernel_rfl) (by kernel_rfl) (fun _ _ _ h => h) (Or.inl ⟨by rfl, ?_⟩) (by assumption) ?_
            rotate_left
            · intro w hSw
              try dsimp only at hSw
              go_simp
              try with_reducible rfl
            simp only [Act.put, List.setIfInBounds_toArray, List.set_cons_zero, List.set_cons_succ]
            refine wpAnyH_take (i := 9) (oi := ⟨some 35, _, _, _, _, _⟩) (v := ?_) rfl (by kernel_rfl) (by kernel_rfl) (by kernel_rfl) (fun _ _ _ h => h) (Or.inl ⟨by rfl, ?_⟩) (by assumption) ?_
            rotate_left
            · intro w hSw
              try dsimp only at hSw
              go_simp
              try with_reducible rfl
            simp only [Act.put, List.setIfInBounds_toArray, List.set_cons_zero, List.set_cons_succ]
            refine wpAnyH_take (i := 12) (oi := ⟨some 38, _, _, _, _, _⟩) (v := ?_) rfl (by kernel_rfl) (by kernel_rfl) (by kernel_rfl) (fun _ _ _ h => h) (Or.inl ⟨by rfl, ?_⟩) (by assumption) ?_
            rotate_left
            · intro w hSw
              try dsimp only at hSw
              go_simp
              try with_reducible rfl
            simp only [Act.put, List.setIfInBounds_toArray, List.set_cons_zero, List.set_cons_succ]
            refine wpAnyH_ready (rs := [0, 3, 10]) (by kernel_rfl) (by simp) ?_
            refine AllReadyH.cons rfl (fun K hK => ?_) (AllReadyH.cons rfl (fun K hK => ?_) (AllReadyH.cons rfl (fun K hK => ?_) AllReadyH.nil))
            · have l0 := HD4d.out.d0
              have l1 := HD4d.out.d1
              go_simp
              clear l0 l1
              refine hK.out _ _ ?_ (fun hHeld => ?_)
              · try dsimp only
                exact HD4d.out.elem HQ.out
              clear hK K
              refine wpAnyH_ready (rs := [3, 10]) (by kernel_rfl) (by simp) ?_
              refine AllReadyH.cons rfl (fun K hK => ?_) (AllReadyH.cons rfl (fun K hK => ?_) AllReadyH.nil)
              · have l0 := HD4d.out.d0
                go_simp
                clear l0
                refine hK.out _ _ ?_ (fun hHeld => ?_)
                · try dsimp only
                  exact HD4d.out.elem HQ.out
                clear hK K
                refine wpAnyH_take (i := 5) (oi := ⟨some 31, _, _, _, _, _⟩) (v := ?_) rfl (by kernel_rfl) (by kernel_rfl) (by kernel_rfl) (fun _ _ _ h => h) (Or.inl ⟨by rfl, ?_⟩) (by assumption) ?_
                rotate_left
                · intro w hSw
                  try dsimp only at hSw
                  go_simp
                  try with_reducible rfl
                simp only [Act.put, List.setIfInBounds_toArray, List.set_cons_zero, List.set_cons_succ]
                refine wpAnyH_take (i := 6) (oi := ⟨some 32, _, _, _, _, _⟩) (v := ?_) rfl (by kernel_rfl) (by kernel_rfl) (by kernel_rfl) (fun _ _ _ h => h) (Or.inl ⟨by rfl, ?_⟩) (by assumption) ?_
                rotate_left
                · intro w hSw
                  try dsimp only at hSw
                  go_simp
                  try with_reducible rfl
                simp only [Act.put, List.setIfInBounds_toArray, List.set_cons_zero, List.set_cons_succ]
                refine wpAnyH_take (i := 7) (oi := ⟨some 33, _, _, _, _, _⟩) (v := ?_) rfl (by kernel_rfl) (by kernel_rfl) (by kernel_rfl) (fun _ _ _ h => h) (Or.inl ⟨by rfl, ?_⟩) (by assumption) ?_
                rotate_left
                · intro w hSw
                  try dsimp only at hSw
                  go_simp
                  try with_reducible rfl
                simp only [Act.put, List.setIfInBounds_toArray, List.set_cons_zero, List.set_cons_succ]
                refine wpAnyH_take (i := 8) (oi := ⟨some 34, _, _, _, _, _⟩) (v := ?_) rfl (by kernel_rfl) (by kernel_rfl) (by kernel_rfl) (fun _ _ _ h => h) (Or.inl ⟨by rfl, ?_⟩) (by assumption) ?_
                rotate_left
                · intro w hSw
                  try dsimp only at hSw
                  go_simp
                  try with_reducible rfl
                simp only [Act.put, List.setIfInBounds_toArray, List.set_cons_zero, List.set_cons_succ]
                refine wpAnyH_ready (rs := [10]) (by kernel_rfl) (by simp) ?_
                refine AllReadyH.cons rfl (fun K hK => ?_) AllReadyH.nil
                go_simp
                have zb := (alloc_below w4 (.cells #[.string ⟨#[111, 107]⟩, .string ⟨#[101, 114, 114, 111, 114, 32, 51]⟩, .string ⟨#[]⟩] 9)).drew
                have zl : w4.heap.size < (w4.alloc (.cells #[.string ⟨#[111, 107]⟩, .string ⟨#[101, 114, 114, 111, 114, 32, 51]⟩, .string ⟨#[]⟩] 9)).drew.heap.size := alloc_lt w4 (.cells #[.string ⟨#[111, 107]⟩, .string ⟨#[101, 114, 114, 111, 114, 32, 51]⟩, .string ⟨#[]⟩] 9)
                have zc : ∀ j, j < 3 → ∃ z : ByteArray, (w4.alloc (.cells #[.string ⟨#[111, 107]⟩, .string ⟨#[101, 114, 114, 111, 114, 32, 51]⟩, .string ⟨#[]⟩] 9)).drew.cell? ⟨w4.heap.size, j, none⟩ = some (.string z) := cellsT w4 9 ⟨#[111, 107]⟩ ⟨#[101, 114, 114, 111, 114, 32, 51]⟩ ⟨#[]⟩
                have HD5 := hidP (HD4.out.below zb)
                have hne : w4.heap.size ≠ c := by have := HD4.out.cur.lt; omega
                generalize (w4.alloc (.cells #[.string ⟨#[111, 107]⟩, .string ⟨#[101, 114, 114, 111, 114, 32, 51]⟩, .string ⟨#[]⟩] 9)).drew = w5 at *
                refine hK.out _ _ ?_ (fun hHeld => ?_)
                · try dsimp only
                  exact HD5.out.elem HQ.out
                clear hK K
                refine wpAnyH_ready (rs := [11]) (by kernel_rfl) (by simp) ?_
                refine AllReadyH.cons rfl (fun K hK => ?_) AllReadyH.nil
                go_simp
                go_wp2_with (first | (go_at_call 21; refine (l1Str_any c a len cap w4.heap.size 3 _ HD5.out.cur (by omega) (by omega) zl hne zc).mono ?_; rintro e w6 ⟨⟨zt, rfl⟩, hC6, hK6⟩))
                have HD6 := hidP (HD5.out.keep hC6 hK6)
                clear hC6 hK6 zb zl zc
                refine hK.out _ _ ?_ (fun hHeld => ?_)
                · try dsimp only
                  exact HD6.out.elem HQ.out
                clear hK K
                refine wpAnyH_ready (rs := [13]) (by kernel_rfl) (by simp) ?_
                refine AllReadyH.cons rfl (fun K hK => ?_) AllReadyH.nil
                go_simp
                go_wp2_with (first | (go_at_call 23; refine (l1Below_any c a len cap 200 _ HD6.out.cur).mono ?_; rintro e w7 ⟨⟨y, y0, y9, rfl⟩, hC7, hK7⟩))
                have HD7 := hidP (HD6.out.keep hC7 hK7)
                clear hC7 hK7 y9
                refine hK.out _ _ ?_ (fun hHeld => ?_)
                · try dsimp only
                  exact HD7.out.elem HQ.out
                clear hK K
                refine wpAnyH_ready (rs := [14]) (by kernel_rfl) (by simp) ?_
                refine AllReadyH.cons rfl (fun K hK => ?_) AllReadyH.nil
                go_simp
                go_wp2_with (first | (go_at_call 8; refine (sAn12 (some ⟨g, 0, none⟩) n d N ls _ HN.out.1 HD7.out.own.row HN.out.2.2.2 h12 _ _ _ _).mono ?_; rintro e w8 ⟨b', n', d', ls', y', rfl, ho, hn', hb8⟩))
                have HO := hidP (And.intro ho hn')
                have HB := hidP HD7.out.sz
                have HD8 := hidP (HD7.out.below hb8)
                clear ho hn' hb8
                refine hK.out _ _ ?_ (fun hHeld => ?_)
                · try dsimp only
                  exact HD8.out.elem HQ.out
                clear hK K
                refine wpAnyH_take (i := 15) (oi := ⟨some 25, _, _, _, _, _⟩) (v := ?_) rfl (by kernel_rfl) (by kernel_rfl) (by kernel_rfl) (fun _ _ _ h => h) (Or.inl ⟨by rfl, ?_⟩) (by assumption) ?_
                rotate_left
                · intro w hSw
                  try dsimp only at hSw
                  go_simp
                  try with_reducible rfl
                simp only [Act.put, List.setIfInBounds_toArray, List.set_cons_zero, List.set_cons_succ]
                refine wpAnyH_take (i := 16) (oi := ⟨some 41, _, _, _, _, _⟩) (v := ?_) rfl (by kernel_rfl) (by kernel_rfl) (by kernel_rfl) (fun _ _ _ h => h) (Or.inl ⟨by rfl, ?_⟩) (by assumption) ?_
                rotate_left
                · intro w hSw
                  try dsimp only at hSw
                  go_simp
                  try with_reducible rfl
                simp only [Act.put, List.setIfInBounds_toArray, List.set_cons_zero, List.set_cons_succ]
                refine wpAnyH_take (i := 17) (oi := ⟨some 42, _, _, _, _, _⟩) (v := ?_) rfl (by kernel_rfl) (by kernel_rfl) (by kernel_rfl) (fun _ _ _ h => h) (Or.inl ⟨by rfl, ?_⟩) (by assumption) ?_
                rotate_left
                · intro w hSw
                  try dsimp only at hSw
                  go_simp
                  try with_reducible rfl
                simp only [Act.put, List.setIfInBounds_toArray, List.set_cons_zero, List.set_cons_succ]
                refine wpAnyH_ready (rs := [18]) (by kernel_rfl) (by simp) ?_
                refine AllReadyH.cons rfl (fun K hK => ?_) AllReadyH.nil
                have s0 := HD8.out.d0
                have s1 := HD8.out.d1
                have sF := HD8.out.dF
                go_simp
                clear s0 s1 sF
                refine hK.out _ _ ?_ (fun hHeld => ?_)
                · try dsimp only
                  exact cell_set1 (cell_set1 (HD8.out.elem HQ.out) hgne) hgne
                clear hK K
                refine wpAnyH_done (by kernel_rfl) ?_ _
                clear hHeld
                go_wp2_with fail
                go_roundw
                case rel => exact ⟨i - 1, b', n', d', N, ls', by go_num, by omega, hN0, hN1, HD8.out.put HB.out HO.out.1 HO.out.2⟩
                case measure => simp [intOf]; omega
              · go_simp
                have zb := (alloc_below w4 (.cells #[.string ⟨#[111, 107]⟩, .string ⟨#[101, 114, 114, 111, 114, 32, 51]⟩, .string ⟨#[]⟩] 9)).drew
                have zl : w4.heap.size < (w4.alloc (.cells #[.string ⟨#[111, 107]⟩, .string ⟨#[101, 114, 114, 111, 114, 32, 51]⟩, .string ⟨#[]⟩] 9)).drew.heap.size := alloc_lt w4 (.cells #[.string ⟨#[111, 107]⟩, .string ⟨#[101, 114, 114, 111, 114, 32, 51]⟩, .string ⟨#[]⟩] 9)
                have zc : ∀ j, j < 3 → ∃ z : ByteArray, (w4.alloc (.cells #[.string ⟨#[111, 107]⟩, .string ⟨#[101, 114, 114, 111, 114, 32, 51]⟩, .string ⟨#[]⟩] 9)).drew.cell? ⟨w4.heap.size, j, none⟩ = some (.string z) := cellsT w4 9 ⟨#[111, 107]⟩ ⟨#[101, 114, 114, 111, 114, 32, 51]⟩ ⟨#[]⟩
                have HD5 := hidP (HD4.out.below zb)
                have hne : w4.heap.size ≠ c := by have := HD4.out.cur.lt; omega
                generalize (w4.alloc (.cells #[.string ⟨#[111, 107]⟩, .string ⟨#[101, 114, 114, 111, 114, 32, 51]⟩, .string ⟨#[]⟩] 9)).drew = w5 at *
                refine hK.out _ _ ?_ (fun hHeld => ?_)
                · try dsimp only
                  exact HD5.out.elem HQ.out
                clear hK K
                refine wpAnyH_ready (rs := [3, 11]) (by kernel_rfl) (by simp) ?_
                refine AllReadyH.cons rfl (fun K hK => ?_) (AllReadyH.cons rfl (fun K hK => ?_) AllReadyH.nil)
                · have l0 := HD5.out.d0
                  go_simp
                  clear l0
                  refine hK.out _ _ ?_ (fun hHeld => ?_)
                  · try dsimp only
                    exact HD5.out.elem HQ.out
                  clear hK K
                  refine wpAnyH_take (i := 5) (oi := ⟨some 31, _, _, _, _, _⟩) (v := ?_) rfl (by kernel_rfl) (by kernel_rfl) (by kernel_rfl) (fun _ _ _ h => h) (Or.inl ⟨by rfl, ?_⟩) (by assumption) ?_
                  rotate_left
                  · intro w hSw
                    try dsimp only at hSw
                    go_simp
                    try with_reducible rfl
                  simp only [Act.put, List.setIfInBounds_toArray, List.set_cons_zero, List.set_cons_succ]
                  refine wpAnyH_take (i := 6) (oi := ⟨some 32, _, _, _, _, _⟩) (v := ?_) rfl (by kernel_rfl) (by kernel_rfl) (by kernel_rfl) (fun _ _ _ h => h) (Or.inl ⟨by rfl, ?_⟩) (by assumption) ?_
                  rotate_left
                  · intro w hSw
                    try dsimp only at hSw
                    go_simp
                    try with_reducible rfl
                  simp only [Act.put, List.setIfInBounds_toArray, List.set_cons_zero, List.set_cons_succ]
                  refine wpAnyH_take (i := 7) (oi := ⟨some 33, _, _, _, _, _⟩) (v := ?_) rfl (by kernel_rfl) (by kernel_rfl) (by kernel_rfl) (fun _ _ _ h => h) (Or.inl ⟨by rfl, ?_⟩) (by assumption) ?_
                  rotate_left
                  · intro w hSw
                    try dsimp only at hSw
                    go_simp
                    try with_reducible rfl
                  simp only [Act.put, List.setIfInBounds_toArray, List.set_cons_zero, List.set_cons_succ]
                  refine wpAnyH_take (i := 8) (oi := ⟨some 34, _, _, _, _, _⟩) (v := ?_) rfl (by kernel_rfl) (by kernel_rfl) (by kernel_rfl) (fun _ _ _ h => h) (Or.inl ⟨by rfl, ?_⟩) (by assumption) ?_
                  rotate_left
                  · intro w hSw
                    try dsimp only at hSw
                    go_simp
                    try with_reducible rfl
                  simp only [Act.put, List.setIfInBounds_toArray, List.set_cons_zero, List.set_cons_succ]
                  refine wpAnyH_ready (rs := [11]) (by kernel_rfl) (by simp) ?_
                  refine AllReadyH.cons rfl (fun K hK => ?_) AllReadyH.nil
                  go_simp
                  go_wp2_with (first | (go_at_call 21; refine (l1Str_any c a len cap w4.heap.size 3 _ HD5.out.cur (by omega) (by omega) zl hne zc).mono ?_; rintro e w6 ⟨⟨zt, rfl⟩, hC6, hK6⟩))
                  have HD6 := hidP (HD5.out.keep hC6 hK6)
                  clear hC6 hK6 zb zl zc
                  refine hK.out _ _ ?_ (fun hHeld => ?_)
                  · try dsimp only
                    exact HD6.out.elem HQ.out
                  clear hK K
                  refine wpAnyH_ready (rs := [13]) (by kernel_rfl) (by simp) ?_
                  refine AllReadyH.cons rfl (fun K hK => ?_) AllReadyH.nil
                  go_simp
                  go_wp2_with (first | (go_at_call 23; refine (l1Below_any c a len cap 200 _ HD6.out.cur).mono ?_; rintro e w7 ⟨⟨y, y0, y9, rfl⟩, hC7, hK7⟩))
                  have HD7 := hidP (HD6.out.keep hC7 hK7)
                  clear hC7 hK7 y9
                  refine hK.out _ _ ?_ (fun hHeld => ?_)
                  · try dsimp only
                    exact HD7.out.elem HQ.out
                  clear hK K
                  refine wpAnyH_ready (rs := [14]) (by kernel_rfl) (by simp) ?_
                  refine AllReadyH.cons rfl (fun K hK => ?_) AllReadyH.nil
                  go_simp
                  go_wp2_with (first | (go_at_call 8; refine (sAn12 (some ⟨g, 0, none⟩) n d N ls _ HN.out.1 HD7.out.own.row HN.out.2.2.2 h12 _ _ _ _).mono ?_; rintro e w8 ⟨b', n', d', ls', y', rfl, ho, hn', hb8⟩))
                  have HO := hidP (And.intro ho hn')
                  have HB := hidP HD7.out.sz
                  have HD8 := hidP (HD7.out.below hb8)
                  clear ho hn' hb8
                  refine hK.out _ _ ?_ (fun hHeld => ?_)
                  · try dsimp only
                    exact HD8.out.elem HQ.out
                  clear hK K
                  refine wpAnyH_take (i := 15) (oi := ⟨some 25, _, _, _, _, _⟩) (v := ?_) rfl (by kernel_rfl) (by kernel_rfl) (by kernel_rfl) (fun _ _ _ h => h) (Or.inl ⟨by rfl, ?_⟩) (by assumption) ?_
                  rotate_left
                  · intro w hSw
                    try dsimp only at hSw
                    go_simp
                    try with_reducible rfl
                  simp only [Act.put, List.setIfInBounds_toArray, List.set_cons_zero, List.set_cons_succ]
                  refine wpAnyH_take (i := 16) (oi := ⟨some 41, _, _, _, _, _⟩) (v := ?_) rfl (by kernel_rfl) (by kernel_rfl) (by kernel_rfl) (fun _ _ _ h => h) (Or.inl ⟨by rfl, ?_⟩) (by assumption) ?_
                  rotate_left
                  · intro w hSw
                    try dsimp only at hSw
                    go_simp
                    try with_reducible rfl
                  simp only [Act.put, List.setIfInBounds_toArray, List.set_cons_zero, List.set_cons_succ]
                  refine wpAnyH_take (i := 17) (oi := ⟨some 42, _, _, _, _, _⟩) (v := ?_) rfl (by kernel_rfl) (by kernel_rfl) (by kernel_rfl) (fun _ _ _ h => h) (Or.inl ⟨by rfl, ?_⟩) (by assumption) ?_
                  rotate_left
                  · intro w hSw
                    try dsimp only at hSw
                    go_simp
                    try with_reducible rfl
                  simp only [Act.put, List.setIfInBounds_toArray, List.set_cons_zero, List.set_cons_succ]
                  refine wpAnyH_ready (rs := [18]) (by kernel_rfl) (by simp) ?_
                  refine AllReadyH.cons rfl (fun K hK => ?_) AllReadyH.nil
                  have s0 := HD8.out.d0
                  have s1 := HD8.out.d1
                  have sF := HD8.out.dF
                  go_simp
                  clear s0 s1 sF
                  refine hK.out _ _ ?_ (fun hHeld => ?_)
                  · try dsimp only
                    exact cell_set1 (cell_set1 (HD8.out.elem HQ.out) hgne) hgne
                  clear hK K
                  refine wpAnyH_done (by kernel_rfl) ?_ _
                  clear hHeld
                  go_wp2_with fail
                  go_roundw
                  case rel => exact ⟨i - 1, b', n', d', N, ls', by go_num, by omega, hN0, hN1, HD8.out.put HB.out HO.out.1 HO.out.2⟩
                  case measure => simp [intOf]; omega
                · go_simp
                  go_wp2_with (first | (go_at_call 21; refine (l1Str_any c a len cap w4.heap.size 3 _ HD5.out.cur (by omega) (by omega) zl hne zc).mono ?_; rintro e w6 ⟨⟨zt, rfl⟩, hC6, hK6⟩))
                  have HD6 := hidP (HD5.out.keep hC6 hK6)
                  clear hC6 hK6 zb zl zc
                  refine hK.out _ _ ?_ (fun hHeld => ?_)
                  · try dsimp only
                    exact HD6.out.elem HQ.out
                  clear hK K
                  refine wpAnyH_ready (rs := [3, 13]) (by kernel_rfl) (by simp) ?_
                  refine AllReadyH.cons rfl (fun K hK => ?_) (AllReadyH.cons rfl (fun K hK => ?_) AllReadyH.nil)
                  · have l0 := HD6.out.d0
                    go_simp
                    clear l0
                    refine hK.out _ _ ?_ (fun hHeld => ?_)
                    · try dsimp only
                      exact HD6.out.elem HQ.out
                    clear hK K
                    refine wpAnyH_take (i := 5) (oi := ⟨some 31, _, _, _, _, _⟩) (v := ?_) rfl (by kernel_rfl) (by kernel_rfl) (by kernel_rfl) (fun _ _ _ h => h) (Or.inl ⟨by rfl, ?_⟩) (by assumption) ?_
                    rotate_left
                    · intro w hSw
                      try dsimp only at hSw
                      go_simp
                      try with_reducible rfl
                    simp only [Act.put, List.setIfInBounds_toArray, List.set_cons_zero, List.set_cons_succ]
                    refine wpAnyH_take (i := 6) (oi := ⟨some 32, _, _, _, _, _⟩) (v := ?_) rfl (by kernel_rfl) (by kernel_rfl) (by kernel_rfl) (fun _ _ _ h => h) (Or.inl ⟨by rfl, ?_⟩) (by assumption) ?_
                    rotate_left
                    · intro w hSw
                      try dsimp only at hSw
                      go_simp
                      try with_reducible rfl
                    simp only [Act.put, List.setIfInBounds_toArray, List.set_cons_zero, List.set_cons_succ]
                    refine wpAnyH_take (i := 7) (oi := ⟨some 33, _, _, _, _, _⟩) (v := ?_) rfl (by kernel_rfl) (by kernel_rfl) (by kernel_rfl) (fun _ _ _ h => h) (Or.inl ⟨by rfl, ?_⟩) (by assumption) ?_
                    rotate_left
                    · intro w hSw
                      try dsimp only at hSw
                      go_simp
                      try with_reducible rfl
                    simp only [Act.put, List.setIfInBounds_toArray, List.set_cons_zero, List.set_cons_succ]
                    refine wpAnyH_take (i := 8) (oi := ⟨some 34, _, _, _, _, _⟩) (v := ?_) rfl (by kernel_rfl) (by kernel_rfl) (by kernel_rfl) (fun _ _ _ h => h) (Or.inl ⟨by rfl, ?_⟩) (by assumption) ?_
                    rotate_left
                    · intro w hSw
                      try dsimp only at hSw
                      go_simp
                      try with_reducible rfl
                    simp only [Act.put, List.setIfInBounds_toArray, List.set_cons_zero, List.set_cons_succ]
                    refine wpAnyH_ready (rs := [13]) (by kernel_rfl) (by simp) ?_
                    refine AllReadyH.cons rfl (fun K hK => ?_) AllReadyH.nil
                    go_simp
                    go_wp2_with (first | (go_at_call 23; refine (l1Below_any c a len cap 200 _ HD6.out.cur).mono ?_; rintro e w7 ⟨⟨y, y0, y9, rfl⟩, hC7, hK7⟩))
                    have HD7 := hidP (HD6.out.keep hC7 hK7)
                    clear hC7 hK7 y9
                    refine hK.out _ _ ?_ (fun hHeld => ?_)
                    · try dsimp only
                      exact HD7.out.elem HQ.out
                    clear hK K
                    refine wpAnyH_ready (rs := [14]) (by kernel_rfl) (by simp) ?_
                    refine AllReadyH.cons rfl (fun K hK => ?_) AllReadyH.nil
                    go_simp
                    go_wp2_with (first | (go_at_call 8; refine (sAn12 (some ⟨g, 0, none⟩) n d N ls _ HN.out.1 HD7.out.own.row HN.out.2.2.2 h12 _ _ _ _).mono ?_; rintro e w8 ⟨b', n', d', ls', y', rfl, ho, hn', hb8⟩))
                    have HO := hidP (And.intro ho hn')
                    have HB := hidP HD7.out.sz
                    have HD8 := hidP (HD7.out.below hb8)
                    clear ho hn' hb8
                    refine hK.out _ _ ?_ (fun hHeld => ?_)
                    · try dsimp only
                      exact HD8.out.elem HQ.out
                    clear hK K
                    refine wpAnyH_take (i := 15) (oi := ⟨some 25, _, _, _, _, _⟩) (v := ?_) rfl (by kernel_rfl) (by kernel_rfl) (by kernel_rfl) (fun _ _ _ h => h) (Or.inl ⟨by rfl, ?_⟩) (by assumption) ?_
                    rotate_left
                    · intro w hSw
                      try dsimp only at hSw
                      go_simp
                      try with_reducible rfl
                    simp only [Act.put, List.setIfInBounds_toArray, List.set_cons_zero, List.set_cons_succ]
                    refine wpAnyH_take (i := 16) (oi := ⟨some 41, _, _, _, _, _⟩) (v := ?_) rfl (by kernel_rfl) (by kernel_rfl) (by kernel_rfl) (fun _ _ _ h => h) (Or.inl ⟨by rfl, ?_⟩) (by assumption) ?_
                    rotate_left
                    · intro w hSw
                      try dsimp only at hSw
                      go_simp
                      try with_reducible rfl
                    simp only [Act.put, List.setIfInBounds_toArray, List.set_cons_zero, List.set_cons_succ]
                    refine wpAnyH_take (i := 17) (oi := ⟨some 42, _, _, _, _, _⟩) (v := ?_) rfl (by kernel_rfl) (by kernel_rfl) (by kernel_rfl) (fun _ _ _ h => h) (Or.inl ⟨by rfl, ?_⟩) (by assumption) ?_
                    rotate_left
                    · intro w hSw
                      try dsimp only at hSw
                      go_simp
                      try with_reducible rfl
                    simp only [Act.put, List.setIfInBounds_toArray, List.set_cons_zero, List.set_cons_succ]
                    refine wpAnyH_ready (rs := [18]) (by kernel_rfl) (by simp) ?_
                    refine AllReadyH.cons rfl (fun K hK => ?_) AllReadyH.nil
                    have s0 := HD8.out.d0
                    have s1 := HD8.out.d1
                    have sF := HD8.out.dF
                    go_simp
                    clear s0 s1 sF
                    refine hK.out _ _ ?_ (fun hHeld => ?_)
                    · try dsimp only
                      exact cell_set1 (cell_set1 (HD8.out.elem HQ.out) hgne) hgne
                    clear hK K
                    refine wpAnyH_done (by kernel_rfl) ?_ _
                    clear hHeld
                    go_wp2_with fail
                    go_roundw
                    case rel => exact ⟨i - 1, b', n', d', N, ls', by go_num, by omega, hN0, hN1, HD8.out.put HB.out HO.out.1 HO.out.2⟩
                    case measure => simp [intOf]; omega
                  · go_simp
                    go_wp2_with (first | (go_at_call 23; refine (l1Below_any c a len cap 200 _ HD6.out.cur).mono ?_; rintro e w7 ⟨⟨y, y0, y9, rfl⟩, hC7, hK7⟩))
                    have HD7 := hidP (HD6.out.keep hC7 hK7)
                    clear hC7 hK7 y9
                    refine hK.out _ _ ?_ (fun hHeld => ?_)
                    · try dsimp only
                      exact HD7.out.elem HQ.out
                    clear hK K
                    refine wpAnyH_ready (rs := [3]) (by kernel_rfl) (by simp) ?_
                    refine AllReadyH.cons rfl (fun K hK => ?_) AllReadyH.nil
                    have l0 := HD7.out.d0
                    go_simp
                    clear l0
                    refine hK.out _ _ ?_ (fun hHeld => ?_)
                    · try dsimp only
                      exact HD7.out.elem HQ.out
                    clear hK K
                    refine wpAnyH_take (i := 5) (oi := ⟨some 31, _, _, _, _, _⟩) (v := ?_) rfl (by kernel_rfl) (by kernel_rfl) (by kernel_rfl) (fun _ _ _ h => h) (Or.inl ⟨by rfl, ?_⟩) (by assumption) ?_
                    rotate_left
                    · intro w hSw
                      try dsimp only at hSw
                      go_simp
                      try with_reducible rfl
                    simp only [Act.put, List.setIfInBounds_toArray, List.set_cons_zero, List.set_cons_succ]
                    refine wpAnyH_take (i := 6) (oi := ⟨some 32, _, _, _, _, _⟩) (v := ?_) rfl (by kernel_rfl) (by kernel_rfl) (by kernel_rfl) (fun _ _ _ h => h) (Or.inl ⟨by rfl, ?_⟩) (by assumption) ?_
                    rotate_left
                    · intro w hSw
                      try dsimp only at hSw
                      go_simp
                      try with_reducible rfl
                    simp only [Act.put, List.setIfInBounds_toArray, List.set_cons_zero, List.set_cons_succ]
                    refine wpAnyH_take (i := 7) (oi := ⟨some 33, _, _, _, _, _⟩) (v := ?_) rfl (by kernel_rfl) (by kernel_rfl) (by kernel_rfl) (fun _ _ _ h => h) (Or.inl ⟨by rfl, ?_⟩) (by assumption) ?_
                    rotate_left
                    · intro w hSw
                      try dsimp only at hSw
                      go_simp
                      try with_reducible rfl
                    simp only [Act.put, List.setIfInBounds_toArray, List.set_cons_zero, List.set_cons_succ]
                    refine wpAnyH_take (i := 8) (oi := ⟨some 34, _, _, _, _, _⟩) (v := ?_) rfl (by kernel_rfl) (by kernel_rfl) (by kernel_rfl) (fun _ _ _ h => h) (Or.inl ⟨by rfl, ?_⟩) (by assumption) ?_
                    rotate_left
                    · intro w hSw
                      try dsimp only at hSw
                      go_simp
                      try with_reducible rfl
                    simp only [Act.put, List.setIfInBounds_toArray, List.set_cons_zero, List.set_cons_succ]
                    refine wpAnyH_ready (rs := [14]) (by kernel_rfl) (by simp) ?_
                    refine AllReadyH.cons rfl (fun K hK => ?_) AllReadyH.nil
                    go_simp
                    go_wp2_with (first | (go_at_call 8; refine (sAn12 (some ⟨g, 0, none⟩) n d N ls _ HN.out.1 HD7.out.own.row HN.out.2.2.2 h12 _ _ _ _).mono ?_; rintro e w8 ⟨b', n', d', ls', y', rfl, ho, hn', hb8⟩))
                    have HO := hidP (And.intro ho hn')
                    have HB := hidP HD7.out.sz
                    have HD8 := hidP (HD7.out.below hb8)
                    clear ho hn' hb8
                    refine hK.out _ _ ?_ (fun hHeld => ?_)
                    · try dsimp only
                      exact HD8.out.elem HQ.out
                    clear hK K
                    refine wpAnyH_take (i := 15) (oi := ⟨some 25, _, _, _, _, _⟩) (v := ?_) rfl (by kernel_rfl) (by kernel_rfl) (by kernel_rfl) (fun _ _ _ h => h) (Or.inl ⟨by rfl, ?_⟩) (by assumption) ?_
                    rotate_left
                    · intro w hSw
                      try dsimp only at hSw
                      go_simp
                      try with_reducible rfl
                    simp only [Act.put, List.setIfInBounds_toArray, List.set_cons_zero, List.set_cons_succ]
                    refine wpAnyH_take (i := 16) (oi := ⟨some 41, _, _, _, _, _⟩) (v := ?_) rfl (by kernel_rfl) (by kernel_rfl) (by kernel_rfl) (fun _ _ _ h => h) (Or.inl ⟨by rfl, ?_⟩) (by assumption) ?_
                    rotate_left
                    · intro w hSw
                      try dsimp only at hSw
                      go_simp
                      try with_reducible rfl
                    simp only [Act.put, List.setIfInBounds_toArray, List.set_cons_zero, List.set_cons_succ]
                    refine wpAnyH_take (i := 17) (oi := ⟨some 42, _, _, _, _, _⟩) (v := ?_) rfl (by kernel_rfl) (by kernel_rfl) (by kernel_rfl) (fun _ _ _ h => h) (Or.inl ⟨by rfl, ?_⟩) (by assumption) ?_
                    rotate_left
                    · intro w hSw
                      try dsimp only at hSw
                      go_simp
                      try with_reducible rfl
                    simp only [Act.put, List.setIfInBounds_toArray, List.set_cons_zero, List.set_cons_succ]
                    refine wpAnyH_ready (rs := [18]) (by kernel_rfl) (by simp) ?_
                    refine AllReadyH.cons rfl (fun K hK => ?_) AllReadyH.nil
                    have s0 := HD8.out.d0
                    have s1 := HD8.out.d1
                    have sF := HD8.out.dF
                    go_simp
                    clear s0 s1 sF
                    refine hK.out _ _ ?_ (fun hHeld => ?_)
                    · try dsimp only
                      exact cell_set1 (cell_set1 (HD8.out.elem HQ.out) hgne) hgne
                    clear hK K
                    refine wpAnyH_done (by kernel_rfl) ?_ _
                    clear hHeld
                    go_wp2_with fail
                    go_roundw
                    case rel => exact ⟨i - 1, b', n', d', N, ls', by go_num, by omega, hN0, hN1, HD8.out.put HB.out HO.out.1 HO.out.2⟩
                    case measure => simp [intOf]; omega
            · have l0 := HD4d.out.d0
              go_simp
              clear l0
              refine hK.out _ _ ?_ (fun hHeld => ?_)
              · try dsimp only
                exact HD4d.out.elem HQ.out
              clear hK K
              refine wpAnyH_take (i := 5) (oi := ⟨some 31, _, _, _, _, _⟩) (v := ?_) rfl (by kernel_rfl) (by kernel_rfl) (by kernel_rfl) (fun _ _ _ h => h) (Or.inl ⟨by rfl, ?_⟩) (by assumption) ?_
              rotate_left
              · intro w hSw
                try dsimp only at hSw
                go_simp
                try with_reducible rfl
              simp only [Act.put, List.setIfInBounds_toArray, List.set_cons_zero, List.set_cons_succ]
              refine wpAnyH_take (i := 6) (oi := ⟨some 32, _, _, _, _, _⟩) (v := ?_) rfl (by kernel_rfl) (by kernel_rfl) (by kernel_rfl) (fun _ _ _ h => h) (Or.inl ⟨by rfl, ?_⟩) (by assumption) ?_
              rotate_left
              · intro w hSw
                try dsimp only at hSw
                go_simp
                try with_reducible rfl
              simp only [Act.put, List.setIfInBounds_toArray, List.set_cons_zero, List.set_cons_succ]
              refine wpAnyH_take (i := 7) (oi := ⟨some 33, _, _, _, _, _⟩) (v := ?_) rfl (by kernel_rfl) (by kernel_rfl) (by kernel_rfl) (fun _ _ _ h => h) (Or.inl ⟨by rfl, ?_⟩) (by assumption) ?_
              rotate_left
              · intro w hSw
                try dsimp only at hSw
                go_simp
                try with_reducible rfl
              simp only [Act.put, List.setIfInBounds_toArray, List.set_cons_zero, List.set_cons_succ]
              refine wpAnyH_take (i := 8) (oi := ⟨some 34, _, _, _, _, _⟩) (v := ?_) rfl (by kernel_rfl) (by kernel_rfl) (by kernel_rfl) (fun _ _ _ h => h) (Or.inl ⟨by rfl, ?_⟩) (by assumption) ?_
              rotate_left
              · intro w hSw
                try dsimp only at hSw
                go_simp
                try with_reducible rfl
              simp only [Act.put, List.setIfInBounds_toArray, List.set_cons_zero, List.set_cons_succ]
              refine wpAnyH_ready (rs := [0, 10]) (by kernel_rfl) (by simp) ?_
              refine AllReadyH.cons rfl (fun K hK => ?_) (AllReadyH.cons rfl (fun K hK => ?_) AllReadyH.nil)
              · have l0 := HD4d.out.d0
                have l1 := HD4d.out.d1
                go_simp
                clear l0 l1
                refine hK.out _ _ ?_ (fun hHeld => ?_)
                · try dsimp only
                  exact HD4d.out.elem HQ.out
                clear hK K
                refine wpAnyH_ready (rs := [10]) (by kernel_rfl) (by simp) ?_
                refine AllReadyH.cons rfl (fun K hK => ?_) AllReadyH.nil
                go_simp
                have zb := (alloc_below w4 (.cells #[.string ⟨#[111, 107]⟩, .string ⟨#[101, 114, 114, 111, 114, 32, 51]⟩, .string ⟨#[]⟩] 9)).drew
                have zl : w4.heap.size < (w4.alloc (.cells #[.string ⟨#[111, 107]⟩, .string ⟨#[101, 114, 114, 111, 114, 32, 51]⟩, .string ⟨#[]⟩] 9)).drew.heap.size := alloc_lt w4 (.cells #[.string ⟨#[111, 107]⟩, .string ⟨#[101, 114, 114, 111, 114, 32, 51]⟩, .string ⟨#[]⟩] 9)
                have zc : ∀ j, j < 3 → ∃ z : ByteArray, (w4.alloc (.cells #[.string ⟨#[111, 107]⟩, .string ⟨#[101, 114, 114, 111, 114, 32, 51]⟩, .string ⟨#[]⟩] 9)).drew.cell? ⟨w4.heap.size, j, none⟩ = some (.string z) := cellsT w4 9 ⟨#[111, 107]⟩ ⟨#[101, 114, 114, 111, 114, 32, 51]⟩ ⟨#[]⟩
                have HD5 := hidP (HD4.out.below zb)
                have hne : w4.heap.size ≠ c := by have := HD4.out.cur.lt; omega
                generalize (w4.alloc (.cells #[.string ⟨#[111, 107]⟩, .string ⟨#[101, 114, 114, 111, 114, 32, 51]⟩, .string ⟨#[]⟩] 9)).drew = w5 at *
                refine hK.out _ _ ?_ (fun hHeld => ?_)
                · try dsimp only
                  exact HD5.out.elem HQ.out
                clear hK K
                refine wpAnyH_ready (rs := [11]) (by kernel_rfl) (by simp) ?_
                refine AllReadyH.cons rfl (fun K hK => ?_) AllReadyH.nil
                go_simp
                go_wp2_with (first | (go_at_call 21; refine (l1Str_any c a len cap w4.heap.size 3 _ HD5.out.cur (by omega) (by omega) zl hne zc).mono ?_; rintro e w6 ⟨⟨zt, rfl⟩, hC6, hK6⟩))
                have HD6 := hidP (HD5.out.keep hC6 hK6)
                clear hC6 hK6 zb zl zc
                refine hK.out _ _ ?_ (fun hHeld => ?_)
                · try dsimp only
                  exact HD6.out.elem HQ.out
                clear hK K
                refine wpAnyH_ready (rs := [13]) (by kernel_rfl) (by simp) ?_
                refine AllReadyH.cons rfl (fun K hK => ?_) AllReadyH.nil
                go_simp
                go_wp2_with (first | (go_at_call 23; refine (l1Below_any c a len cap 200 _ HD6.out.cur).mono ?_; rintro e w7 ⟨⟨y, y0, y9, rfl⟩, hC7, hK7⟩))
                have HD7 := hidP (HD6.out.keep hC7 hK7)
                clear hC7 hK7 y9
                refine hK.out _ _ ?_ (fun hHeld => ?_)
                · try dsimp only
                  exact HD7.out.elem HQ.out
                clear hK K
                refine wpAnyH_ready (rs := [14]) (by kernel_rfl) (by simp) ?_
                refine AllReadyH.cons rfl (fun K hK => ?_) AllReadyH.nil
                go_simp
                go_wp2_with (first | (go_at_call 8; refine (sAn12 (some ⟨g, 0, none⟩) n d N ls _ HN.out.1 HD7.out.own.row HN.out.2.2.2 h12 _ _ _ _).mono ?_; rintro e w8 ⟨b', n', d', ls', y', rfl, ho, hn', hb8⟩))
                have HO := hidP (And.intro ho hn')
                have HB := hidP HD7.out.sz
                have HD8 := hidP (HD7.out.below hb8)
                clear ho hn' hb8
                refine hK.out _ _ ?_ (fun hHeld => ?_)
                · try dsimp only
                  exact HD8.out.elem HQ.out
                clear hK K
                refine wpAnyH_take (i := 15) (oi := ⟨some 25, _, _, _, _, _⟩) (v := ?_) rfl (by kernel_rfl) (by kernel_rfl) (by kernel_rfl) (fun _ _ _ h => h) (Or.inl ⟨by rfl, ?_⟩) (by assumption) ?_
                rotate_left
                · intro w hSw
                  try dsimp only at hSw
                  go_simp
                  try with_reducible rfl
                simp only [Act.put, List.setIfInBounds_toArray, List.set_cons_zero, List.set_cons_succ]
                refine wpAnyH_take (i := 16) (oi := ⟨some 41, _, _, _, _, _⟩) (v := ?_) rfl (by kernel_rfl) (by kernel_rfl) (by kernel_rfl) (fun _ _ _ h => h) (Or.inl ⟨by rfl, ?_⟩) (by assumption) ?_
                rotate_left
                · intro w hSw
                  try dsimp only at hSw
                  go_simp
                  try with_reducible rfl
                simp only [Act.put, List.setIfInBounds_toArray, List.set_cons_zero, List.set_cons_succ]
                refine wpAnyH_take (i := 17) (oi := ⟨some 42, _, _, _, _, _⟩) (v := ?_) rfl (by kernel_rfl) (by kernel_rfl) (by kernel_rfl) (fun _ _ _ h => h) (Or.inl ⟨by rfl, ?_⟩) (by assumption) ?_
                rotate_left
                · intro w hSw
                  try dsimp only at hSw
                  go_simp
                  try with_reducible rfl
                simp only [Act.put, List.setIfInBounds_toArray, List.set_cons_zero, List.set_cons_succ]
                refine wpAnyH_ready (rs := [18]) (by kernel_rfl) (by simp) ?_
                refine AllReadyH.cons rfl (fun K hK => ?_) AllReadyH.nil
                have s0 := HD8.out.d0
                have s1 := HD8.out.d1
                have sF := HD8.out.dF
                go_simp
                clear s0 s1 sF
                refine hK.out _ _ ?_ (fun hHeld => ?_)
                · try dsimp only
                  exact cell_set1 (cell_set1 (HD8.out.elem HQ.out) hgne) hgne
                clear hK K
                refine wpAnyH_done (by kernel_rfl) ?_ _
                clear hHeld
                go_wp2_with fail
                go_roundw
                case rel => exact ⟨i - 1, b', n', d', N, ls', by go_num, by omega, hN0, hN1, HD8.out.put HB.out HO.out.1 HO.out.2⟩
                case measure => simp [intOf]; omega
              · go_simp
                have zb := (alloc_below w4 (.cells #[.string ⟨#[111, 107]⟩, .string ⟨#[101, 114, 114, 111, 114, 32, 51]⟩, .string ⟨#[]⟩] 9)).drew
                have zl : w4.heap.size < (w4.alloc (.cells #[.string ⟨#[111, 107]⟩, .string ⟨#[101, 114, 114, 111, 114, 32, 51]⟩, .string ⟨#[]⟩] 9)).drew.heap.size := alloc_lt w4 (.cells #[.string ⟨#[111, 107]⟩, .string ⟨#[101, 114, 114, 111, 114, 32, 51]⟩, .string ⟨#[]⟩] 9)
                have zc : ∀ j, j < 3 → ∃ z : ByteArray, (w4.alloc (.cells #[.string ⟨#[111, 107]⟩, .string ⟨#[101, 114, 114, 111, 114, 32, 51]⟩, .string ⟨#[]⟩] 9)).drew.cell? ⟨w4.heap.size, j, none⟩ = some (.string z) := cellsT w4 9 ⟨#[111, 107]⟩ ⟨#[101, 114, 114, 111, 114, 32, 51]⟩ ⟨#[]⟩
                have HD5 := hidP (HD4.out.below zb)
                have hne : w4.heap.size ≠ c := by have := HD4.out.cur.lt; omega
                generalize (w4.alloc (.cells #[.string ⟨#[111, 107]⟩, .string ⟨#[101, 114, 114, 111, 114, 32, 51]⟩, .string ⟨#[]⟩] 9)).drew = w5 at *
                refine hK.out _ _ ?_ (fun hHeld => ?_)
                · try dsimp only
                  exact HD5.out.elem HQ.out
                clear hK K
                refine wpAnyH_ready (rs := [0, 11]) (by kernel_rfl) (by simp) ?_
                refine AllReadyH.cons rfl (fun K hK => ?_) (AllReadyH.cons rfl (fun K hK => ?_) AllReadyH.nil)
                · have l0 := HD5.out.d0
                  have l1 := HD5.out.d1
                  go_simp
                  clear l0 l1
                  refine hK.out _ _ ?_ (fun hHeld => ?_)
                  · try dsimp only
                    exact HD5.out.elem HQ.out
                  clear hK K
                  refine wpAnyH_ready (rs := [11]) (by kernel_rfl) (by simp) ?_
                  refine AllReadyH.cons rfl (fun K hK => ?_) AllReadyH.nil
                  go_simp
                  go_wp2_with (first | (go_at_call 21; refine (l1Str_any c a len cap w4.heap.size 3 _ HD5.out.cur (by omega) (by omega) zl hne zc).mono ?_; rintro e w6 ⟨⟨zt, rfl⟩, hC6, hK6⟩))
                  have HD6 := hidP (HD5.out.keep hC6 hK6)
                  clear hC6 hK6 zb zl zc
                  refine hK.out _ _ ?_ (fun hHeld => ?_)
                  · try dsimp only
                    exact HD6.out.elem HQ.out
                  clear hK K
                  refine wpAnyH_ready (rs := [13]) (by kernel_rfl) (by simp) ?_
                  refine AllReadyH.cons rfl (fun K hK => ?_) AllReadyH.nil
                  go_simp
                  go_wp2_with (first | (go_at_call 23; refine (l1Below_any c a len cap 200 _ HD6.out.cur).mono ?_; rintro e w7 ⟨⟨y, y0, y9, rfl⟩, hC7, hK7⟩))
                  have HD7 := hidP (HD6.out.keep hC7 hK7)
                  clear hC7 hK7 y9
                  refine hK.out _ _ ?_ (fun hHeld => ?_)
                  · try dsimp only
                    exact HD7.out.elem HQ.out
                  clear hK K
                  refine wpAnyH_ready (rs := [14]) (by kernel_rfl) (by simp) ?_
                  refine AllReadyH.cons rfl (fun K hK => ?_) AllReadyH.nil
                  go_simp
                  go_wp2_with (first | (go_at_call 8; refine (sAn12 (some ⟨g, 0, none⟩) n d N ls _ HN.out.1 HD7.out.own.row HN.out.2.2.2 h12 _ _ _ _).mono ?_; rintro e w8 ⟨b', n', d', ls', y', rfl, ho, hn', hb8⟩))
                  have HO := hidP (And.intro ho hn')
                  have HB := hidP HD7.out.sz
                  have HD8 := hidP (HD7.out.below hb8)
                  clear ho hn' hb8
                  refine hK.out _ _ ?_ (fun hHeld => ?_)
                  · try dsimp only
                    exact HD8.out.elem HQ.out
                  clear hK K
                  refine wpAnyH_take (i := 15) (oi := ⟨some 25, _, _, _, _, _⟩) (v := ?_) rfl (by kernel_rfl) (by kernel_rfl) (by kernel_rfl) (fun _ _ _ h => h) (Or.inl ⟨by rfl, ?_⟩) (by assumption) ?_
                  rotate_left
                  · intro w hSw
                    try dsimp only at hSw
                    go_simp
                    try with_reducible rfl
                  simp only [Act.put, List.setIfInBounds_toArray, List.set_cons_zero, List.set_cons_succ]
                  refine wpAnyH_take (i := 16) (oi := ⟨some 41, _, _, _, _, _⟩) (v := ?_) rfl (by kernel_rfl) (by kernel_rfl) (by kernel_rfl) (fun _ _ _ h => h) (Or.inl ⟨by rfl, ?_⟩) (by assumption) ?_
                  rotate_left
                  · intro w hSw
                    try dsimp only at hSw
                    go_simp
                    try with_reducible rfl
                  simp only [Act.put, List.setIfInBounds_toArray, List.set_cons_zero, List.set_cons_succ]
                  refine wpAnyH_take (i := 17) (oi := ⟨some 42, _, _, _, _, _⟩) (v := ?_) rfl (by kernel_rfl) (by kernel_rfl) (by kernel_rfl) (fun _ _ _ h => h) (Or.inl ⟨by rfl, ?_⟩) (by assumption) ?_
                  rotate_left
                  · intro w hSw
                    try dsimp only at hSw
                    go_simp
                    try with_reducible rfl
                  simp only [Act.put, List.setIfInBounds_toArray, List.set_cons_zero, List.set_cons_succ]
                  refine wpAnyH_ready (rs := [18]) (by kernel_rfl) (by simp) ?_
                  refine AllReadyH.cons rfl (fun K hK => ?_) AllReadyH.nil
                  have s0 := HD8.out.d0
                  have s1 := HD8.out.d1
                  have sF := HD8.out.dF
                  go_simp
                  clear s0 s1 sF
                  refine hK.out _ _ ?_ (fun hHeld => ?_)
                  · try dsimp only
                    exact cell_set1 (cell_set1 (HD8.out.elem HQ.out) hgne) hgne
                  clear hK K
                  refine wpAnyH_done (by kernel_rfl) ?_ _
                  clear hHeld
                  go_wp2_with fail
                  go_roundw
                  case rel => exact ⟨i - 1, b', n', d', N, ls', by go_num, by omega, hN0, hN1, HD8.out.put HB.out HO.out.1 HO.out.2⟩
                  case measure => simp [intOf]; omega
                · go_simp
                  go_wp2_with (first | (go_at_call 21; refine (l1Str_any c a len cap w4.heap.size 3 _ HD5.out.cur (by omega) (by omega) zl hne zc).mono ?_; rintro e w6 ⟨⟨zt, rfl⟩, hC6, hK6⟩))
                  have HD6 := hidP (HD5.out.keep hC6 hK6)
                  clear hC6 hK6 zb zl zc
                  refine hK.out _ _ ?_ (fun hHeld => ?_)
                  · try dsimp only
                    exact HD6.out.elem HQ.out
                  clear hK K
                  refine wpAnyH_ready (rs := [0, 13]) (by kernel_rfl) (by simp) ?_
                  refine AllReadyH.cons rfl (fun K hK => ?_) (AllReadyH.cons rfl (fun K hK => ?_) AllReadyH.nil)
                  · have l0 := HD6.out.d0
                    have l1 := HD6.out.d1
                    go_simp
                    clear l0 l1
                    refine hK.out _ _ ?_ (fun hHeld => ?_)
                    · try dsimp only
                      exact HD6.out.elem HQ.out
                    clear hK K
                    refine wpAnyH_ready (rs := [13]) (by kernel_rfl) (by simp) ?_
                    refine AllReadyH.cons rfl (fun K hK => ?_) AllReadyH.nil
                    go_simp
                    go_wp2_with (first | (go_at_call 23; refine (l1Below_any c a len cap 200 _ HD6.out.cur).mono ?_; rintro e w7 ⟨⟨y, y0, y9, rfl⟩, hC7, hK7⟩))
                    have HD7 := hidP (HD6.out.keep hC7 hK7)
                    clear hC7 hK7 y9
                    refine hK.out _ _ ?_ (fun hHeld => ?_)
                    · try dsimp only
                      exact HD7.out.elem HQ.out
                    clear hK K
                    refine wpAnyH_ready (rs := [14]) (by kernel_rfl) (by simp) ?_
                    refine AllReadyH.cons rfl (fun K hK => ?_) AllReadyH.nil
                    go_simp
                    go_wp2_with (first | (go_at_call 8; refine (sAn12 (some ⟨g, 0, none⟩) n d N ls _ HN.out.1 HD7.out.own.row HN.out.2.2.2 h12 _ _ _ _).mono ?_; rintro e w8 ⟨b', n', d', ls', y', rfl, ho, hn', hb8⟩))
                    have HO := hidP (And.intro ho hn')
                    have HB := hidP HD7.out.sz
                    have HD8 := hidP (HD7.out.below hb8)
                    clear ho hn' hb8
                    refine hK.out _ _ ?_ (fun hHeld => ?_)
                    · try dsimp only
                      exact HD8.out.elem HQ.out
                    clear hK K
                    refine wpAnyH_take (i := 15) (oi := ⟨some 25, _, _, _, _, _⟩) (v := ?_) rfl (by kernel_rfl) (by kernel_rfl) (by kernel_rfl) (fun _ _ _ h => h) (Or.inl ⟨by rfl, ?_⟩) (by assumption) ?_
                    rotate_left
                    · intro w hSw
                      try dsimp only at hSw
                      go_simp
                      try with_reducible rfl
                    simp only [Act.put, List.setIfInBounds_toArray, List.set_cons_zero, List.set_cons_succ]
                    refine wpAnyH_take (i := 16) (oi := ⟨some 41, _, _, _, _, _⟩) (v := ?_) rfl (by kernel_rfl) (by kernel_rfl) (by kernel_rfl) (fun _ _ _ h => h) (Or.inl ⟨by rfl, ?_⟩) (by assumption) ?_
                    rotate_left
                    · intro w hSw
                      try dsimp only at hSw
                      go_simp
                      try with_reducible rfl
                    simp only [Act.put, List.setIfInBounds_toArray, List.set_cons_zero, List.set_cons_succ]
                    refine wpAnyH_take (i := 17) (oi := ⟨some 42, _, _, _, _, _⟩) (v := ?_) rfl (by kernel_rfl) (by kernel_rfl) (by kernel_rfl) (fun _ _ _ h => h) (Or.inl ⟨by rfl, ?_⟩) (by assumption) ?_
                    rotate_left
                    · intro w hSw
                      try dsimp only at hSw
                      go_simp
                      try with_reducible rfl
                    simp only [Act.put, List.setIfInBounds_toArray, List.set_cons_zero, List.set_cons_succ]
                    refine wpAnyH_ready (rs := [18]) (by kernel_rfl) (by simp) ?_
                    refine AllReadyH.cons rfl (fun K hK => ?_) AllReadyH.nil
                    have s0 := HD8.out.d0
                    have s1 := HD8.out.d1
                    have sF := HD8.out.dF
                    go_simp
                    clear s0 s1 sF
                    refine hK.out _ _ ?_ (fun hHeld => ?_)
                    · try dsimp only
                      exact cell_set1 (cell_set1 (HD8.out.elem HQ.out) hgne) hgne
                    clear hK K
                    refine wpAnyH_done (by kernel_rfl) ?_ _
                    clear hHeld
                    go_wp2_with fail
                    go_roundw
                    case rel => exact ⟨i - 1, b', n', d', N, ls', by go_num, by omega, hN0, hN1, HD8.out.put HB.out HO.out.1 HO.out.2⟩
                    case measure => simp [intOf]; omega
                  · go_simp
                    go_wp2_with (first | (go_at_call 23; refine (l1Below_any c a len cap 200 _ HD6.out.cur).mono ?_; rintro e w7 ⟨⟨y, y0, y9, rfl⟩, hC7, hK7⟩))
                    have HD7 := hidP (HD6.out.keep hC7 hK7)
                    clear hC7 hK7 y9
                    refine hK.out _ _ ?_ (fun hHeld => ?_)
                    · try dsimp only
                      exact HD7.out.elem HQ.out
                    clear hK K
                    refine wpAnyH_ready (rs := [0]) (by kernel_rfl) (by simp) ?_
                    refine AllReadyH.cons rfl (fun K hK => ?_) AllReadyH.nil
                    have l0 := HD7.out.d0
                    have l1 := HD7.out.d1
                    go_simp
                    clear l0 l1
                    refine hK.out _ _ ?_ (fun hHeld => ?_)
                    · try dsimp only
                      exact HD7.out.elem HQ.out
                    clear hK K
                    refine wpAnyH_ready (rs := [14]) (by kernel_rfl) (by simp) ?_
                    refine AllReadyH.cons rfl (fun K hK => ?_) AllReadyH.nil
                    go_simp
                    go_wp2_with (first | (go_at_call 8; refine (sAn12 (some ⟨g, 0, none⟩) n d N ls _ HN.out.1 HD7.out.own.row HN.out.2.2.2 h12 _ _ _ _).mono ?_; rintro e w8 ⟨b', n', d', ls', y', rfl, ho, hn', hb8⟩))
                    have HO := hidP (And.intro ho hn')
                    have HB := hidP HD7.out.sz
                    have HD8 := hidP (HD7.out.below hb8)
                    clear ho hn' hb8
                    refine hK.out _ _ ?_ (fun hHeld => ?_)
                    · try dsimp only
                      exact HD8.out.elem HQ.out
                    clear hK K
                    refine wpAnyH_take (i := 15) (oi := ⟨some 25, _, _, _, _, _⟩) (v := ?_) rfl (by kernel_rfl) (by kernel_rfl) (by kernel_rfl) (fun _ _ _ h => h) (Or.inl ⟨by rfl, ?_⟩) (by assumption) ?_
                    rotate_left
                    · intro w hSw
                      try dsimp only at hSw
                      go_simp
                      try with_reducible rfl
                    simp only [Act.put, List.setIfInBounds_toArray, List.set_cons_zero, List.set_cons_succ]
                    refine wpAnyH_take (i := 16) (oi := ⟨some 41, _, _, _, _, _⟩) (v := ?_) rfl (by kernel_rfl) (by kernel_rfl) (by kernel_rfl) (fun _ _ _ h => h) (Or.inl ⟨by rfl, ?_⟩) (by assumption) ?_
                    rotate_left
                    · intro w hSw
                      try dsimp only at hSw
                      go_simp
                      try with_reducible rfl
                    simp only [Act.put, List.setIfInBounds_toArray, List.set_cons_zero, List.set_cons_succ]
                    refine wpAnyH_take (i := 17) (oi := ⟨some 42, _, _, _, _, _⟩) (v := ?_) rfl (by kernel_rfl) (by kernel_rfl) (by kernel_rfl) (fun _ _ _ h => h) (Or.inl ⟨by rfl, ?_⟩) (by assumption) ?_
                    rotate_left
                    · intro w hSw
                      try dsimp only at hSw
                      go_simp
                      try with_reducible rfl
                    simp only [Act.put, List.setIfInBounds_toArray, List.set_cons_zero, List.set_cons_succ]
                    refine wpAnyH_ready (rs := [18]) (by kernel_rfl) (by simp) ?_
                    refine AllReadyH.cons rfl (fun K hK => ?_) AllReadyH.nil
                    have s0 := HD8.out.d0
                    have s1 := HD8.out.d1
                    have sF := HD8.out.dF
                    go_simp
                    clear s0 s1 sF
                    refine hK.out _ _ ?_ (fun hHeld => ?_)
                    · try dsimp only
                      exact cell_set1 (cell_set1 (HD8.out.elem HQ.out) hgne) hgne
                    clear hK K
                    refine wpAnyH_done (by kernel_rfl) ?_ _
                    clear hHeld
                    go_wp2_with fail
                    go_roundw
                    case rel => exact ⟨i - 1, b', n', d', N, ls', by go_num, by omega, hN0, hN1, HD8.out.put HB.out HO.out.1 HO.out.2⟩
                    case measure => simp [intOf]; omega
            · go_simp
              have zb := (alloc_below w4 (.cells #[.string ⟨#[111, 107]⟩, .string ⟨#[101, 114, 114, 111, 114, 32, 51]⟩, .string ⟨#[]⟩] 9)).drew
              have zl : w4.heap.size < (w4.alloc (.cells #[.string ⟨#[111, 107]⟩, .string ⟨#[101, 114, 114, 111, 114, 32, 51]⟩, .string ⟨#[]⟩] 9)).drew.heap.size := alloc_lt w4 (.cells #[.string ⟨#[111, 107]⟩, .string ⟨#[101, 114, 114, 111, 114, 32, 51]⟩, .string ⟨#[]⟩] 9)
              have zc : ∀ j, j < 3 → ∃ z : ByteArray, (w4.alloc (.cells #[.string ⟨#[111, 107]⟩, .string ⟨#[101, 114, 114, 111, 114, 32, 51]⟩, .string ⟨#[]⟩] 9)).drew.cell? ⟨w4.heap.size, j, none⟩ = some (.string z) := cellsT w4 9 ⟨#[111, 107]⟩ ⟨#[101, 114, 114, 111, 114, 32, 51]⟩ ⟨#[]⟩
              have HD5 := hidP (HD4.out.below zb)
              have hne : w4.heap.size ≠ c := by have := HD4.out.cur.lt; omega
              generalize (w4.alloc (.cells #[.string ⟨#[111, 107]⟩, .string ⟨#[101, 114, 114, 111, 114, 32, 51]⟩, .string ⟨#[]⟩] 9)).drew = w5 at *
              refine hK.out _ _ ?_ (fun hHeld => ?_)
              · try dsimp only
                exact HD5.out.elem HQ.out
              clear hK K
              refine wpAnyH_ready (rs := [0, 3, 11]) (by kernel_rfl) (by simp) ?_
              refine AllReadyH.cons rfl (fun K hK => ?_) (AllReadyH.cons rfl (fun K hK => ?_) (AllReadyH.cons rfl (fun K hK => ?_) AllReadyH.nil))
              · have l0 := HD5.out.d0
                have l1 := HD5.out.d1
                go_simp
                clear l0 l1
                refine hK.out _ _ ?_ (fun hHeld => ?_)
                · try dsimp only
                  exact HD5.out.elem HQ.out
                clear hK K
                refine wpAnyH_ready (rs := [3, 11]) (by kernel_rfl) (by simp) ?_
                refine AllReadyH.cons rfl (fun K hK => ?_) (AllReadyH.cons rfl (fun K hK => ?_) AllReadyH.nil)
                · have l0 := HD5.out.d0
                  go_simp
                  clear l0
                  refine hK.out _ _ ?_ (fun hHeld => ?_)
                  · try dsimp only
                    exact HD5.out.elem HQ.out
                  clear hK K
                  refine wpAnyH_take (i := 5) (oi := ⟨some 31, _, _, _, _, _⟩) (v := ?_) rfl (by kernel_rfl) (by kernel_rfl) (by kernel_rfl) (fun _ _ _ h => h) (Or.inl ⟨by rfl, ?_⟩) (by assumption) ?_
                  rotate_left
                  · intro w hSw
                    try dsimp only at hSw
                    go_simp
                    try with_reducible rfl
                  simp only [Act.put, List.setIfInBounds_toArray, List.set_cons_zero, List.set_cons_succ]
                  refine wpAnyH_take (i := 6) (oi := ⟨some 32, _, _, _, _, _⟩) (v := ?_) rfl (by kernel_rfl) (by kernel_rfl) (by kernel_rfl) (fun _ _ _ h => h) (Or.inl ⟨by rfl, ?_⟩) (by assumption) ?_
                  rotate_left
                  · intro w hSw
                    try dsimp only at hSw
                    go_simp
                    try with_reducible rfl
                  simp only [Act.put, List.setIfInBounds_toArray, List.set_cons_zero, List.set_cons_succ]
                  refine wpAnyH_take (i := 7) (oi := ⟨some 33, _, _, _, _, _⟩) (v := ?_) rfl (by kernel_rfl) (by kernel_rfl) (by kernel_rfl) (fun _ _ _ h => h) (Or.inl ⟨by rfl, ?_⟩) (by assumption) ?_
                  rotate_left
                  · intro w hSw
                    try dsimp only at hSw
                    go_simp
                    try with_reducible rfl
                  simp only [Act.put, List.setIfInBounds_toArray, List.set_cons_zero, List.set_cons_succ]
                  refine wpAnyH_take (i := 8) (oi := ⟨some 34, _, _, _, _, _⟩) (v := ?_) rfl (by kernel_rfl) (by kernel_rfl) (by kernel_rfl) (fun _ _ _ h => h) (Or.inl ⟨by rfl, ?_⟩) (by assumption) ?_
                  rotate_left
                  · intro w hSw
                    try dsimp only at hSw
                    go_simp
                    try with_reducible rfl
                  simp only [Act.put, List.setIfInBounds_toArray, List.set_cons_zero, List.set_cons_succ]
                  refine wpAnyH_ready (rs := [11]) (by kernel_rfl) (by simp) ?_
                  refine AllReadyH.cons rfl (fun K hK => ?_) AllReadyH.nil
                  go_simp
                  go_wp2_with (first | (go_at_call 21; refine (l1Str_any c a len cap w4.heap.size 3 _ HD5.out.cur (by omega) (by omega) zl hne zc).mono ?_; rintro e w6 ⟨⟨zt, rfl⟩, hC6, hK6⟩))
                  have HD6 := hidP (HD5.out.keep hC6 hK6)
                  clear hC6 hK6 zb zl zc
                  refine hK.out _ _ ?_ (fun hHeld => ?_)
                  · try dsimp only
                    exact HD6.out.elem HQ.out
                  clear hK K
                  refine wpAnyH_ready (rs := [13]) (by kernel_rfl) (by simp) ?_
                  refine AllReadyH.cons rfl (fun K hK => ?_) AllReadyH.nil
                  go_simp
                  go_wp2_with (first | (go_at_call 23; refine (l1Below_any c a len cap 200 _ HD6.out.cur).mono ?_; rintro e w7 ⟨⟨y, y0, y9, rfl⟩, hC7, hK7⟩))
                  have HD7 := hidP (HD6.out.keep hC7 hK7)
                  clear hC7 hK7 y9
                  refine hK.out _ _ ?_ (fun hHeld => ?_)
                  · try dsimp only
                    exact HD7.out.elem HQ.out
                  clear hK K
                  refine wpAnyH_ready (rs := [14]) (by kernel_rfl) (by simp) ?_
                  refine AllReadyH.cons rfl (fun K hK => ?_) AllReadyH.nil
                  go_simp
                  go_wp2_with (first | (go_at_call 8; refine (sAn12 (some ⟨g, 0, none⟩) n d N ls _ HN.out.1 HD7.out.own.row HN.out.2.2.2 h12 _ _ _ _).mono ?_; rintro e w8 ⟨b', n', d', ls', y', rfl, ho, hn', hb8⟩))
                  have HO := hidP (And.intro ho hn')
                  have HB := hidP HD7.out.sz
                  have HD8 := hidP (HD7.out.below hb8)
                  clear ho hn' hb8
                  refine hK.out _ _ ?_ (fun hHeld => ?_)
                  · try dsimp only
                    exact HD8.out.elem HQ.out
                  clear hK K
                  refine wpAnyH_take (i := 15) (oi := ⟨some 25, _, _, _, _, _⟩) (v := ?_) rfl (by kernel_rfl) (by kernel_rfl) (by kernel_rfl) (fun _ _ _ h => h) (Or.inl ⟨by rfl, ?_⟩) (by assumption) ?_
                  rotate_left
                  · intro w hSw
                    try dsimp only at hSw
                    go_simp
                    try with_reducible rfl
                  simp only [Act.put, List.setIfInBounds_toArray, List.set_cons_zero, List.set_cons_succ]
                  refine wpAnyH_take (i := 16) (oi := ⟨some 41, _, _, _, _, _⟩) (v := ?_) rfl (by kernel_rfl) (by kernel_rfl) (by kernel_rfl) (fun _ _ _ h => h) (Or.inl ⟨by rfl, ?_⟩) (by assumption) ?_
                  rotate_left
                  · intro w hSw
                    try dsimp only at hSw
                    go_simp
                    try with_reducible rfl
                  simp only [Act.put, List.setIfInBounds_toArray, List.set_cons_zero, List.set_cons_succ]
                  refine wpAnyH_take (i := 17) (oi := ⟨some 42, _, _, _, _, _⟩) (v := ?_) rfl (by kernel_rfl) (by kernel_rfl) (by kernel_rfl) (fun _ _ _ h => h) (Or.inl ⟨by rfl, ?_⟩) (by assumption) ?_
                  rotate_left
                  · intro w hSw
                    try dsimp only at hSw
                    go_simp
                    try with_reducible rfl
                  simp only [Act.put, List.setIfInBounds_toArray, List.set_cons_zero, List.set_cons_succ]
                  refine wpAnyH_ready (rs := [18]) (by kernel_rfl) (by simp) ?_
                  refine AllReadyH.cons rfl (fun K hK => ?_) AllReadyH.nil
                  have s0 := HD8.out.d0
                  have s1 := HD8.out.d1
                  have sF := HD8.out.dF
                  go_simp
                  clear s0 s1 sF
                  refine hK.out _ _ ?_ (fun hHeld => ?_)
                  · try dsimp only
                    exact cell_set1 (cell_set1 (HD8.out.elem HQ.out) hgne) hgne
                  clear hK K
                  refine wpAnyH_done (by kernel_rfl) ?_ _
                  clear hHeld
                  go_wp2_with fail
                  go_roundw
                  case rel => exact ⟨i - 1, b', n', d', N, ls', by go_num, by omega, hN0, hN1, HD8.out.put HB.out HO.out.1 HO.out.2⟩
                  case measure => simp [intOf]; omega
                · go_simp
                  go_wp2_with (first | (go_at_call 21; refine (l1Str_any c a len cap w4.heap.size 3 _ HD5.out.cur (by omega) (by omega) zl hne zc).mono ?_; rintro e w6 ⟨⟨zt, rfl⟩, hC6, hK6⟩))
                  have HD6 := hidP (HD5.out.keep hC6 hK6)
                  clear hC6 hK6 zb zl zc
                  refine hK.out _ _ ?_ (fun hHeld => ?_)
                  · try dsimp only
                    exact HD6.out.elem HQ.out
                  clear hK K
                  refine wpAnyH_ready (rs := [3, 13]) (by kernel_rfl) (by simp) ?_
                  refine AllReadyH.cons rfl (fun K hK => ?_) (AllReadyH.cons rfl (fun K hK => ?_) AllReadyH.nil)
                  · have l0 := HD6.out.d0
                    go_simp
                    clear l0
                    refine hK.out _ _ ?_ (fun hHeld => ?_)
                    · try dsimp only
                      exact HD6.out.elem HQ.out
                    clear hK K
                    refine wpAnyH_take (i := 5) (oi := ⟨some 31, _, _, _, _, _⟩) (v := ?_) rfl (by kernel_rfl) (by kernel_rfl) (by kernel_rfl) (fun _ _ _ h => h) (Or.inl ⟨by rfl, ?_⟩) (by assumption) ?_
                    rotate_left
                    · intro w hSw
                      try dsimp only at hSw
                      go_simp
                      try with_reducible rfl
                    simp only [Act.put, List.setIfInBounds_toArray, List.set_cons_zero, List.set_cons_succ]
                    refine wpAnyH_take (i := 6) (oi := ⟨some 32, _, _, _, _, _⟩) (v := ?_) rfl (by kernel_rfl) (by kernel_rfl) (by kernel_rfl) (fun _ _ _ h => h) (Or.inl ⟨by rfl, ?_⟩) (by assumption) ?_
                    rotate_left
                    · intro w hSw
                      try dsimp only at hSw
                      go_simp
                      try with_reducible rfl
                    simp only [Act.put, List.setIfInBounds_toArray, List.set_cons_zero, List.set_cons_succ]
                    refine wpAnyH_take (i := 7) (oi := ⟨some 33, _, _, _, _, _⟩) (v := ?_) rfl (by kernel_rfl) (by kernel_rfl) (by kernel_rfl) (fun _ _ _ h => h) (Or.inl ⟨by rfl, ?_⟩) (by assumption) ?_
                    rotate_left
                    · intro w hSw
                      try dsimp only at hSw
                      go_simp
                      try with_reducible rfl
                    simp only [Act.put, List.setIfInBounds_toArray, List.set_cons_zero, List.set_cons_succ]
                    refine wpAnyH_take (i := 8) (oi := ⟨some 34, _, _, _, _, _⟩) (v := ?_) rfl (by kernel_rfl) (by kernel_rfl) (by kernel_rfl) (fun _ _ _ h => h) (Or.inl ⟨by rfl, ?_⟩) (by assumption) ?_
                    rotate_left
                    · intro w hSw
                      try dsimp only at hSw
                      go_simp
                      try with_reducible rfl
                    simp only [Act.put, List.setIfInBounds_toArray, List.set_cons_zero, List.set_cons_succ]
                    refine wpAnyH_ready (rs := [13]) (by kernel_rfl) (by simp) ?_
                    refine AllReadyH.cons rfl (fun K hK => ?_) AllReadyH.nil
                    go_simp
                    go_wp2_with (first | (go_at_call 23; refine (l1Below_any c a len cap 200 _ HD6.out.cur).mono ?_; rintro e w7 ⟨⟨y, y0, y9, rfl⟩, hC7, hK7⟩))
                    have HD7 := hidP (HD6.out.keep hC7 hK7)
                    clear hC7 hK7 y9
                    refine hK.out _ _ ?_ (fun hHeld => ?_)
                    · try dsimp only
                      exact HD7.out.elem HQ.out
                    clear hK K
                    refine wpAnyH_ready (rs := [14]) (by kernel_rfl) (by simp) ?_
                    refine AllReadyH.cons rfl (fun K hK => ?_) AllReadyH.nil
                    go_simp
                    go_wp2_with (first | (go_at_call 8; refine (sAn12 (some ⟨g, 0, none⟩) n d N ls _ HN.out.1 HD7.out.own.row HN.out.2.2.2 h12 _ _ _ _).mono ?_; rintro e w8 ⟨b', n', d', ls', y', rfl, ho, hn', hb8⟩))
                    have HO := hidP (And.intro ho hn')
                    have HB := hidP HD7.out.sz
                    have HD8 := hidP (HD7.out.below hb8)
                    clear ho hn' hb8
                    refine hK.out _ _ ?_ (fun hHeld => ?_)
                    · try dsimp only
                      exact HD8.out.elem HQ.out
                    clear hK K
                    refine wpAnyH_take (i := 15) (oi := ⟨some 25, _, _, _, _, _⟩) (v := ?_) rfl (by kernel_rfl) (by kernel_rfl) (by kernel_rfl) (fun _ _ _ h => h) (Or.inl ⟨by rfl, ?_⟩) (by assumption) ?_
                    rotate_left
                    · intro w hSw
                      try dsimp only at hSw
                      go_simp
                      try with_reducible rfl
                    simp only [Act.put, List.setIfInBounds_toArray, List.set_cons_zero, List.set_cons_succ]
                    refine wpAnyH_take (i := 16) (oi := ⟨some 41, _, _, _, _, _⟩) (v := ?_) rfl (by kernel_rfl) (by kernel_rfl) (by kernel_rfl) (fun _ _ _ h => h) (Or.inl ⟨by rfl, ?_⟩) (by assumption) ?_
                    rotate_left
                    · intro w hSw
                      try dsimp only at hSw
                      go_simp
                      try with_reducible rfl
                    simp only [Act.put, List.setIfInBounds_toArray, List.set_cons_zero, List.set_cons_succ]
                    refine wpAnyH_take (i := 17) (oi := ⟨some 42, _, _, _, _, _⟩) (v := ?_) rfl (by kernel_rfl) (by kernel_rfl) (by kernel_rfl) (fun _ _ _ h => h) (Or.inl ⟨by rfl, ?_⟩) (by assumption) ?_
                    rotate_left
                    · intro w hSw
                      try dsimp only at hSw
                      go_simp
                      try with_reducible rfl
                    simp only [Act.put, List.setIfInBounds_toArray, List.set_cons_zero, List.set_cons_succ]
                    refine wpAnyH_ready (rs := [18]) (by kernel_rfl) (by simp) ?_
                    refine AllReadyH.cons rfl (fun K hK => ?_) AllReadyH.nil
                    have s0 := HD8.out.d0
                    have s1 := HD8.out.d1
                    have sF := HD8.out.dF
                    go_simp
                    clear s0 s1 sF
                    refine hK.out _ _ ?_ (fun hHeld => ?_)
                    · try dsimp only
                      exact cell_set1 (cell_set1 (HD8.out.elem HQ.out) hgne) hgne
                    clear hK K
                    refine wpAnyH_done (by kernel_rfl) ?_ _
                    clear hHeld
                    go_wp2_with fail
                    go_roundw
                    case rel => exact ⟨i - 1, b', n', d', N, ls', by go_num, by omega, hN0, hN1, HD8.out.put HB.out HO.out.1 HO.out.2⟩
                    case measure => simp [intOf]; omega
                  · go_simp
                    go_wp2_with (first | (go_at_call 23; refine (l1Below_any c a len cap 200 _ HD6.out.cur).mono ?_; rintro e w7 ⟨⟨y, y0, y9, rfl⟩, hC7, hK7⟩))
                    have HD7 := hidP (HD6.out.keep hC7 hK7)
                    clear hC7 hK7 y9
                    refine hK.out _ _ ?_ (fun hHeld => ?_)
                    · try dsimp only
                      exact HD7.out.elem HQ.out
                    clear hK K
                    refine wpAnyH_ready (rs := [3]) (by kernel_rfl) (by simp) ?_
                    refine AllReadyH.cons rfl (fun K hK => ?_) AllReadyH.nil
                    have l0 := HD7.out.d0
                    go_simp
                    clear l0
                    refine hK.out _ _ ?_ (fun hHeld => ?_)
                    · try dsimp only
                      exact HD7.out.elem HQ.out
                    clear hK K
                    refine wpAnyH_take (i := 5) (oi := ⟨some 31, _, _, _, _, _⟩) (v := ?_) rfl (by kernel_rfl) (by kernel_rfl) (by kernel_rfl) (fun _ _ _ h => h) (Or.inl ⟨by rfl, ?_⟩) (by assumption) ?_
                    rotate_left
                    · intro w hSw
                      try dsimp only at hSw
                      go_simp
                      try with_reducible rfl
                    simp only [Act.put, List.setIfInBounds_toArray, List.set_cons_zero, List.set_cons_succ]
                    refine wpAnyH_take (i := 6) (oi := ⟨some 32, _, _, _, _, _⟩) (v := ?_) rfl (by kernel_rfl) (by kernel_rfl) (by kernel_rfl) (fun _ _ _ h => h) (Or.inl ⟨by rfl, ?_⟩) (by assumption) ?_
                    rotate_left
                    · intro w hSw
                      try dsimp only at hSw
                      go_simp
                      try with_reducible rfl
                    simp only [Act.put, List.setIfInBounds_toArray, List.set_cons_zero, List.set_cons_succ]
                    refine wpAnyH_take (i := 7) (oi := ⟨some 33, _, _, _, _, _⟩) (v := ?_) rfl (by kernel_rfl) (by kernel_rfl) (by kernel_rfl) (fun _ _ _ h => h) (Or.inl ⟨by rfl, ?_⟩) (by assumption) ?_
                    rotate_left
                    · intro w hSw
                      try dsimp only at hSw
                      go_simp
                      try with_reducible rfl
                    simp only [Act.put, List.setIfInBounds_toArray, List.set_cons_zero, List.set_cons_succ]
                    refine wpAnyH_take (i := 8) (oi := ⟨some 34, _, _, _, _, _⟩) (v := ?_) rfl (by kernel_rfl) (by kernel_rfl) (by kernel_rfl) (fun _ _ _ h => h) (Or.inl ⟨by rfl, ?_⟩) (by assumption) ?_
                    rotate_left
                    · intro w hSw
                      try dsimp only at hSw
                      go_simp
                      try with_reducible rfl
                    simp only [Act.put, List.setIfInBounds_toArray, List.set_cons_zero, List.set_cons_succ]
                    refine wpAnyH_ready (rs := [14]) (by kernel_rfl) (by simp) ?_
                    refine AllReadyH.cons rfl (fun K hK => ?_) AllReadyH.nil
                    go_simp
                    go_wp2_with (first | (go_at_call 8; refine (sAn12 (some ⟨g, 0, none⟩) n d N ls _ HN.out.1 HD7.out.own.row HN.out.2.2.2 h12 _ _ _ _).mono ?_; rintro e w8 ⟨b', n', d', ls', y', rfl, ho, hn', hb8⟩))
                    have HO := hidP (And.intro ho hn')
                    have HB := hidP HD7.out.sz
                    have HD8 := hidP (HD7.out.below hb8)
                    clear ho hn' hb8
                    refine hK.out _ _ ?_ (fun hHeld => ?_)
                    · try dsimp only
                      exact HD8.out.elem HQ.out
                    clear hK K
                    refine wpAnyH_take (i := 15) (oi := ⟨some 25, _, _, _, _, _⟩) (v := ?_) rfl (by kernel_rfl) (by kernel_rfl) (by kernel_rfl) (fun _ _ _ h => h) (Or.inl ⟨by rfl, ?_⟩) (by assumption) ?_
                    rotate_left
                    · intro w hSw
                      try dsimp only at hSw
                      go_simp
                      try with_reducible rfl
                    simp only [Act.put, List.setIfInBounds_toArray, List.set_cons_zero, List.set_cons_succ]
                    refine wpAnyH_take (i := 16) (oi := ⟨some 41, _, _, _, _, _⟩) (v := ?_) rfl (by kernel_rfl) (by kernel_rfl) (by kernel_rfl) (fun _ _ _ h => h) (Or.inl ⟨by rfl, ?_⟩) (by assumption) ?_
                    rotate_left
                    · intro w hSw
                      try dsimp only at hSw
                      go_simp
                      try with_reducible rfl
                    simp only [Act.put, List.setIfInBounds_toArray, List.set_cons_zero, List.set_cons_succ]
                    refine wpAnyH_take (i := 17) (oi := ⟨some 42, _, _, _, _, _⟩) (v := ?_) rfl (by kernel_rfl) (by kernel_rfl) (by kernel_rfl) (fun _ _ _ h => h) (Or.inl ⟨by rfl, ?_⟩) (by assumption) ?_
                    rotate_left
                    · intro w hSw
                      try dsimp only at hSw
                      go_simp
                      try with_reducible rfl
                    simp only [Act.put, List.setIfInBounds_toArray, List.set_cons_zero, List.set_cons_succ]
                    refine wpAnyH_ready (rs := [18]) (by kernel_rfl) (by simp) ?_
                    refine AllReadyH.cons rfl (fun K hK => ?_) AllReadyH.nil
                    have s0 := HD8.out.d0
                    have s1 := HD8.out.d1
                    have sF := HD8.out.dF
                    go_simp
                    clear s0 s1 sF
                    refine hK.out _ _ ?_ (fun hHeld => ?_)
                    · try dsimp only
                      exact cell_set1 (cell_set1 (HD8.out.elem HQ.out) hgne) hgne
                    clear hK K
                    refine wpAnyH_done (by kernel_rfl) ?_ _
                    clear hHeld
                    go_wp2_with fail
                    go_roundw
                    case rel => exact ⟨i - 1, b', n', d', N, ls', by go_num, by omega, hN0, hN1, HD8.out.put HB.out HO.out.1 HO.out.2⟩
                    case measure => simp [intOf]; omega
              · have l0 := HD5.out.d0
                go_simp
                clear l0
                refine hK.out _ _ ?_ (fun hHeld => ?_)
                · try dsimp only
                  exact HD5.out.elem HQ.out
                clear hK K
                refine wpAnyH_take (i := 5) (oi := ⟨some 31, _, _, _, _, _⟩) (v := ?_) rfl (by kernel_rfl) (by kernel_rfl) (by kernel_rfl) (fun _ _ _ h => h) (Or.inl ⟨by rfl, ?_⟩) (by assumption) ?_
                rotate_left
                · intro w hSw
                  try dsimp only at hSw
                  go_simp
                  try with_reducible rfl
                simp only [Act.put, List.setIfInBounds_toArray, List.set_cons_zero, List.set_cons_succ]
                refine wpAnyH_take (i := 6) (oi := ⟨some 32, _, _, _, _, _⟩) (v := ?_) rfl (by kernel_rfl) (by kernel_rfl) (by kernel_rfl) (fun _ _ _ h => h) (Or.inl ⟨by rfl, ?_⟩) (by assumption) ?_
                rotate_left
                · intro w hSw
                  try dsimp only at hSw
                  go_simp
                  try with_reducible rfl
                simp only [Act.put, List.setIfInBounds_toArray, List.set_cons_zero, List.set_cons_succ]
                refine wpAnyH_take (i := 7) (oi := ⟨some 33, _, _, _, _, _⟩) (v := ?_) rfl (by kernel_rfl) (by kernel_rfl) (by kernel_rfl) (fun _ _ _ h => h) (Or.inl ⟨by rfl, ?_⟩) (by assumption) ?_
                rotate_left
                · intro w hSw
                  try dsimp only at hSw
                  go_simp
                  try with_reducible rfl
                simp only [Act.put, List.setIfInBounds_toArray, List.set_cons_zero, List.set_cons_succ]
                refine wpAnyH_take (i := 8) (oi := ⟨some 34, _, _, _, _, _⟩) (v := ?_) rfl (by kernel_rfl) (by kernel_rfl) (by kernel_rfl) (fun _ _ _ h => h) (Or.inl ⟨by rfl, ?_⟩) (by assumption) ?_
                rotate_left
                · intro w hSw
                  try dsimp only at hSw
                  go_simp
                  try with_reducible rfl
                simp only [Act.put, List.setIfInBounds_toArray, List.set_cons_zero, List.set_cons_succ]
                refine wpAnyH_ready (rs := [0, 11]) (by kernel_rfl) (by simp) ?_
                refine AllReadyH.cons rfl (fun K hK => ?_) (AllReadyH.cons rfl (fun K hK => ?_) AllReadyH.nil)
                · have l0 := HD5.out.d0
                  have l1 := HD5.out.d1
                  go_simp
                  clear l0 l1
                  refine hK.out _ _ ?_ (fun hHeld => ?_)
                  · try dsimp only
                    exact HD5.out.elem HQ.out
                  clear hK K
                  refine wpAnyH_ready (rs := [11]) (by kernel_rfl) (by simp) ?_
                  refine AllReadyH.cons rfl (fun K hK => ?_) AllReadyH.nil
                  go_simp
                  go_wp2_with (first | (go_at_call 21; refine (l1Str_any c a len cap w4.heap.size 3 _ HD5.out.cur (by omega) (by omega) zl hne zc).mono ?_; rintro e w6 ⟨⟨zt, rfl⟩, hC6, hK6⟩))
                  have HD6 := hidP (HD5.out.keep hC6 hK6)
                  clear hC6 hK6 zb zl zc
                  refine hK.out _ _ ?_ (fun hHeld => ?_)
                  · try dsimp only
                    exact HD6.out.elem HQ.out
                  clear hK K
                  refine wpAnyH_ready (rs := [13]) (by kernel_rfl) (by simp) ?_
                  refine AllReadyH.cons rfl (fun K hK => ?_) AllReadyH.nil
                  go_simp
                  go_wp2_with (first | (go_at_call 23; refine (l1Below_any c a len cap 200 _ HD6.out.cur).mono ?_; rintro e w7 ⟨⟨y, y0, y9, rfl⟩, hC7, hK7⟩))
                  have HD7 := hidP (HD6.out.keep hC7 hK7)
                  clear hC7 hK7 y9
                  refine hK.out _ _ ?_ (fun hHeld => ?_)
                  · try dsimp only
                    exact HD7.out.elem HQ.out
                  clear hK K
                  refine wpAnyH_ready (rs := [14]) (by kernel_rfl) (by simp) ?_
                  refine AllReadyH.cons rfl (fun K hK => ?_) AllReadyH.nil
                  go_simp
                  go_wp2_with (first | (go_at_call 8; refine (sAn12 (some ⟨g, 0, none⟩) n d N ls _ HN.out.1 HD7.out.own.row HN.out.2.2.2 h12 _ _ _ _).mono ?_; rintro e w8 ⟨b', n', d', ls', y', rfl, ho, hn', hb8⟩))
                  have HO := hidP (And.intro ho hn')
                  have HB := hidP HD7.out.sz
                  have HD8 := hidP (HD7.out.below hb8)
                  clear ho hn' hb8
                  refine hK.out _ _ ?_ (fun hHeld => ?_)
                  · try dsimp only
                    exact HD8.out.elem HQ.out
                  clear hK K
                  refine wpAnyH_take (i := 15) (oi := ⟨some 25, _, _, _, _, _⟩) (v := ?_) rfl (by kernel_rfl) (by kernel_rfl) (by kernel_rfl) (fun _ _ _ h => h) (Or.inl ⟨by rfl, ?_⟩) (by assumption) ?_
                  rotate_left
                  · intro w hSw
                    try dsimp only at hSw
                    go_simp
                    try with_reducible rfl
                  simp only [Act.put, List.setIfInBounds_toArray, List.set_cons_zero, List.set_cons_succ]
                  refine wpAnyH_take (i := 16) (oi := ⟨some 41, _, _, _, _, _⟩) (v := ?_) rfl (by kernel_rfl) (by kernel_rfl) (by kernel_rfl) (fun _ _ _ h => h) (Or.inl ⟨by rfl, ?_⟩) (by assumption) ?_
                  rotate_left
                  · intro w hSw
                    try dsimp only at hSw
                    go_simp
                    try with_reducible rfl
                  simp only [Act.put, List.setIfInBounds_toArray, List.set_cons_zero, List.set_cons_succ]
                  refine wpAnyH_take (i := 17) (oi := ⟨some 42, _, _, _, _, _⟩) (v := ?_) rfl (by kernel_rfl) (by kernel_rfl) (by kernel_rfl) (fun _ _ _ h => h) (Or.inl ⟨by rfl, ?_⟩) (by assumption) ?_
                  rotate_left
                  · intro w hSw
                    try dsimp only at hSw
                    go_simp
                    try with_reducible rfl
                  simp only [Act.put, List.setIfInBounds_toArray, List.set_cons_zero, List.set_cons_succ]
                  refine wpAnyH_ready (rs := [18]) (by kernel_rfl) (by simp) ?_
                  refine AllReadyH.cons rfl (fun K hK => ?_) AllReadyH.nil
                  have s0 := HD8.out.d0
                  have s1 := HD8.out.d1
                  have sF := HD8.out.dF
                  go_simp
                  clear s0 s1 sF
                  refine hK.out _ _ ?_ (fun hHeld => ?_)
                  · try dsimp only
                    exact cell_set1 (cell_set1 (HD8.out.elem HQ.out) hgne) hgne
                  clear hK K
                  refine wpAnyH_done (by kernel_rfl) ?_ _
                  clear hHeld
                  go_wp2_with fail
                  go_roundw
                  case rel => exact ⟨i - 1, b', n', d', N, ls', by go_num, by omega, hN0, hN1, HD8.out.put HB.out HO.out.1 HO.out.2⟩
                  case measure => simp [intOf]; omega
                · go_simp
                  go_wp2_with (first | (go_at_call 21; refine (l1Str_any c a len cap w4.heap.size 3 _ HD5.out.cur (by omega) (by omega) zl hne zc).mono ?_; rintro e w6 ⟨⟨zt, rfl⟩, hC6, hK6⟩))
                  have HD6 := hidP (HD5.out.keep hC6 hK6)
                  clear hC6 hK6 zb zl zc
                  refine hK.out _ _ ?_ (fun hHeld => ?_)
                  · try dsimp only
                    exact HD6.out.elem HQ.out
                  clear hK K
                  refine wpAnyH_ready (rs := [0, 13]) (by kernel_rfl) (by simp) ?_
                  refine AllReadyH.cons rfl (fun K hK => ?_) (AllReadyH.cons rfl (fun K hK => ?_) AllReadyH.nil)
                  · have l0 := HD6.out.d0
                    have l1 := HD6.out.d1
                    go_simp
                    clear l0 l1
                    refine hK.out _ _ ?_ (fun hHeld => ?_)
                    · try dsimp only
                      exact HD6.out.elem HQ.out
                    clear hK K
                    refine wpAnyH_ready (rs := [13]) (by kernel_rfl) (by simp) ?_
                    refine AllReadyH.cons rfl (fun K hK => ?_) AllReadyH.nil
                    go_simp
                    go_wp2_with (first | (go_at_call 23; refine (l1Below_any c a len cap 200 _ HD6.out.cur).mono ?_; rintro e w7 ⟨⟨y, y0, y9, rfl⟩, hC7, hK7⟩))
                    have HD7 := hidP (HD6.out.keep hC7 hK7)
                    clear hC7 hK7 y9
                    refine hK.out _ _ ?_ (fun hHeld => ?_)
                    · try dsimp only
                      exact HD7.out.elem HQ.out
                    clear hK K
                    refine wpAnyH_ready (rs := [14]) (by kernel_rfl) (by simp) ?_
                    refine AllReadyH.cons rfl (fun K hK => ?_) AllReadyH.nil
                    go_simp
                    go_wp2_with (first | (go_at_call 8; refine (sAn12 (some ⟨g, 0, none⟩) n d N ls _ HN.out.1 HD7.out.own.row HN.out.2.2.2 h12 _ _ _ _).mono ?_; rintro e w8 ⟨b', n', d', ls', y', rfl, ho, hn', hb8⟩))
                    have HO := hidP (And.intro ho hn')
                    have HB := hidP HD7.out.sz
                    have HD8 := hidP (HD7.out.below hb8)
                    clear ho hn' hb8
                    refine hK.out _ _ ?_ (fun hHeld => ?_)
                    · try dsimp only
                      exact HD8.out.elem HQ.out
                    clear hK K
                    refine wpAnyH_take (i := 15) (oi := ⟨some 25, _, _, _, _, _⟩) (v := ?_) rfl (by kernel_rfl) (by kernel_rfl) (by kernel_rfl) (fun _ _ _ h => h) (Or.inl ⟨by rfl, ?_⟩) (by assumption) ?_
                    rotate_left
                    · intro w hSw
                      try dsimp only at hSw
                      go_simp
                      try with_reducible rfl
                    simp only [Act.put, List.setIfInBounds_toArray, List.set_cons_zero, List.set_cons_succ]
                    refine wpAnyH_take (i := 16) (oi := ⟨some 41, _, _, _, _, _⟩) (v := ?_) rfl (by kernel_rfl) (by kernel_rfl) (by kernel_rfl) (fun _ _ _ h => h) (Or.inl ⟨by rfl, ?_⟩) (by assumption) ?_
                    rotate_left
                    · intro w hSw
                      try dsimp only at hSw
                      go_simp
                      try with_reducible rfl
                    simp only [Act.put, List.setIfInBounds_toArray, List.set_cons_zero, List.set_cons_succ]
                    refine wpAnyH_take (i := 17) (oi := ⟨some 42, _, _, _, _, _⟩) (v := ?_) rfl (by kernel_rfl) (by kernel_rfl) (by kernel_rfl) (fun _ _ _ h => h) (Or.inl ⟨by rfl, ?_⟩) (by assumption) ?_
                    rotate_left
                    · intro w hSw
                      try dsimp only at hSw
                      go_simp
                      try with_reducible rfl
                    simp only [Act.put, List.setIfInBounds_toArray, List.set_cons_zero, List.set_cons_succ]
                    refine wpAnyH_ready (rs := [18]) (by kernel_rfl) (by simp) ?_
                    refine AllReadyH.cons rfl (fun K hK => ?_) AllReadyH.nil
                    have s0 := HD8.out.d0
                    have s1 := HD8.out.d1
                    have sF := HD8.out.dF
                    go_simp
                    clear s0 s1 sF
                    refine hK.out _ _ ?_ (fun hHeld => ?_)
                    · try dsimp only
                      exact cell_set1 (cell_set1 (HD8.out.elem HQ.out) hgne) hgne
                    clear hK K
                    refine wpAnyH_done (by kernel_rfl) ?_ _
                    clear hHeld
                    go_wp2_with fail
                    go_roundw
                    case rel => exact ⟨i - 1, b', n', d', N, ls', by go_num, by omega, hN0, hN1, HD8.out.put HB.out HO.out.1 HO.out.2⟩
                    case measure => simp [intOf]; omega
                  · go_simp
                    go_wp2_with (first | (go_at_call 23; refine (l1Below_any c a len cap 200 _ HD6.out.cur).mono ?_; rintro e w7 ⟨⟨y, y0, y9, rfl⟩, hC7, hK7⟩))
                    have HD7 := hidP (HD6.out.keep hC7 hK7)
                    clear hC7 hK7 y9
                    refine hK.out _ _ ?_ (fun hHeld => ?_)
                    · try dsimp only
                      exact HD7.out.elem HQ.out
                    clear hK K
                    refine wpAnyH_ready (rs := [0]) (by kernel_rfl) (by simp) ?_
                    refine AllReadyH.cons rfl (fun K hK => ?_) AllReadyH.nil
                    have l0 := HD7.out.d0
                    have l1 := HD7.out.d1
                    go_simp
                    clear l0 l1
                    refine hK.out _ _ ?_ (fun hHeld => ?_)
                    · try dsimp only
                      exact HD7.out.elem HQ.out
                    clear hK K
                    refine wpAnyH_ready (rs := [14]) (by kernel_rfl) (by simp) ?_
                    refine AllReadyH.cons rfl (fun K hK => ?_) AllReadyH.nil
                    go_simp
                    go_wp2_with (first | (go_at_call 8; refine (sAn12 (some ⟨g, 0, none⟩) n d N ls _ HN.out.1 HD7.out.own.row HN.out.2.2.2 h12 _ _ _ _).mono ?_; rintro e w8 ⟨b', n', d', ls', y', rfl, ho, hn', hb8⟩))
                    have HO := hidP (And.intro ho hn')
                    have HB := hidP HD7.out.sz
                    have HD8 := hidP (HD7.out.below hb8)
                    clear ho hn' hb8
                    refine hK.out _ _ ?_ (fun hHeld => ?_)
                    · try dsimp only
                      exact HD8.out.elem HQ.out
                    clear hK K
                    refine wpAnyH_take (i := 15) (oi := ⟨some 25, _, _, _, _, _⟩) (v := ?_) rfl (by kernel_rfl) (by kernel_rfl) (by kernel_rfl) (fun _ _ _ h => h) (Or.inl ⟨by rfl, ?_⟩) (by assumption) ?_
                    rotate_left
                    · intro w hSw
                      try dsimp only at hSw
                      go_simp
                      try with_reducible rfl
                    simp only [Act.put, List.setIfInBounds_toArray, List.set_cons_zero, List.set_cons_succ]
                    refine wpAnyH_take (i := 16) (oi := ⟨some 41, _, _, _, _, _⟩) (v := ?_) rfl (by kernel_rfl) (by kernel_rfl) (by kernel_rfl) (fun _ _ _ h => h) (Or.inl ⟨by rfl, ?_⟩) (by assumption) ?_
                    rotate_left
                    · intro w hSw
                      try dsimp only at hSw
                      go_simp
                      try with_reducible rfl
                    simp only [Act.put, List.setIfInBounds_toArray, List.set_cons_zero, List.set_cons_succ]
                    refine wpAnyH_take (i := 17) (oi := ⟨some 42, _, _, _, _, _⟩) (v := ?_) rfl (by kernel_rfl) (by kernel_rfl) (by kernel_rfl) (fun _ _ _ h => h) (Or.inl ⟨by rfl, ?_⟩) (by assumption) ?_
                    rotate_left
                    · intro w hSw
                      try dsimp only at hSw
                      go_simp
                      try with_reducible rfl
                    simp only [Act.put, List.setIfInBounds_toArray, List.set_cons_zero, List.set_cons_succ]
                    refine wpAnyH_ready (rs := [18]) (by kernel_rfl) (by simp) ?_
                    refine AllReadyH.cons rfl (fun K hK => ?_) AllReadyH.nil
                    have s0 := HD8.out.d0
                    have s1 := HD8.out.d1
                    have sF := HD8.out.dF
                    go_simp
                    clear s0 s1 sF
                    refine hK.out _ _ ?_ (fun hHeld => ?_)
                    · try dsimp only
                      exact cell_set1 (cell_set1 (HD8.out.elem HQ.out) hgne) hgne
                    clear hK K
                    refine wpAnyH_done (by kernel_rfl) ?_ _
                    clear hHeld
                    go_wp2_with fail
                    go_roundw
                    case rel => exact ⟨i - 1, b', n', d', N, ls', by go_num, by omega, hN0, hN1, HD8.out.put HB.out HO.out.1 HO.out.2⟩
                    case measure => simp [intOf]; omega
              · go_simp
                go_wp2_with (first | (go_at_call 21; refine (l1Str_any c a len cap w4.heap.size 3 _ HD5.out.cur (by omega) (by omega) zl hne zc).mono ?_; rintro e w6 ⟨⟨zt, rfl⟩, hC6, hK6⟩))
                have HD6 := hidP (HD5.out.keep hC6 hK6)
                clear hC6 hK6 zb zl zc
                refine hK.out _ _ ?_ (fun hHeld => ?_)
                · try dsimp only
                  exact HD6.out.elem HQ.out
                clear hK K
                refine wpAnyH_ready (rs := [0, 3, 13]) (by kernel_rfl) (by simp) ?_
                refine AllReadyH.cons rfl (fun K hK => ?_) (AllReadyH.cons rfl (fun K hK => ?_) (AllReadyH.cons rfl (fun K hK => ?_) AllReadyH.nil))
                · have l0 := HD6.out.d0
                  have l1 := HD6.out.d1
                  go_simp
                  clear l0 l1
                  refine hK.out _ _ ?_ (fun hHeld => ?_)
                  · try dsimp only
                    exact HD6.out.elem HQ.out
                  clear hK K
                  refine wpAnyH_ready (rs := [3, 13]) (by kernel_rfl) (by simp) ?_
                  refine AllReadyH.cons rfl (fun K hK => ?_) (AllReadyH.cons rfl (fun K hK => ?_) AllReadyH.nil)
                  · have l0 := HD6.out.d0
                    go_simp
                    clear l0
                    refine hK.out _ _ ?_ (fun hHeld => ?_)
                    · try dsimp only
                      exact HD6.out.elem HQ.out
                    clear hK K
                    refine wpAnyH_take (i := 5) (oi := ⟨some 31, _, _, _, _, _⟩) (v := ?_) rfl (by kernel_rfl) (by kernel_rfl) (by kernel_rfl) (fun _ _ _ h => h) (Or.inl ⟨by rfl, ?_⟩) (by assumption) ?_
                    rotate_left
                    · intro w hSw
                      try dsimp only at hSw
                      go_simp
                      try with_reducible rfl
                    simp only [Act.put, List.setIfInBounds_toArray, List.set_cons_zero, List.set_cons_succ]
                    refine wpAnyH_take (i := 6) (oi := ⟨some 32, _, _, _, _, _⟩) (v := ?_) rfl (by kernel_rfl) (by kernel_rfl) (by kernel_rfl) (fun _ _ _ h => h) (Or.inl ⟨by rfl, ?_⟩) (by assumption) ?_
                    rotate_left
                    · intro w hSw
                      try dsimp only at hSw
                      go_simp
                      try with_reducible rfl
                    simp only [Act.put, List.setIfInBounds_toArray, List.set_cons_zero, List.set_cons_succ]
                    refine wpAnyH_take (i := 7) (oi := ⟨some 33, _, _, _, _, _⟩) (v := ?_) rfl (by kernel_rfl) (by kernel_rfl) (by kernel_rfl) (fun _ _ _ h => h) (Or.inl ⟨by rfl, ?_⟩) (by assumption) ?_
                    rotate_left
                    · intro w hSw
                      try dsimp only at hSw
                      go_simp
                      try with_reducible rfl
                    simp only [Act.put, List.setIfInBounds_toArray, List.set_cons_zero, List.set_cons_succ]
                    refine wpAnyH_take (i := 8) (oi := ⟨some 34, _, _, _, _, _⟩) (v := ?_) rfl (by kernel_rfl) (by kernel_rfl) (by kernel_rfl) (fun _ _ _ h => h) (Or.inl ⟨by rfl, ?_⟩) (by assumption) ?_
                    rotate_left
                    · intro w hSw
                      try dsimp only at hSw
                      go_simp
                      try with_reducible rfl
                    simp only [Act.put, List.setIfInBounds_toArray, List.set_cons_zero, List.set_cons_succ]
                    refine wpAnyH_ready (rs := [13]) (by kernel_rfl) (by simp) ?_
                    refine AllReadyH.cons rfl (fun K hK => ?_) AllReadyH.nil
                    go_simp
                    go_wp2_with (first | (go_at_call 23; refine (l1Below_any c a len cap 200 _ HD6.out.cur).mono ?_; rintro e w7 ⟨⟨y, y0, y9, rfl⟩, hC7, hK7⟩))
                    have HD7 := hidP (HD6.out.keep hC7 hK7)
                    clear hC7 hK7 y9
                    refine hK.out _ _ ?_ (fun hHeld => ?_)
                    · try dsimp only
                      exact HD7.out.elem HQ.out
                    clear hK K
                    refine wpAnyH_ready (rs := [14]) (by kernel_rfl) (by simp) ?_
                    refine AllReadyH.cons rfl (fun K hK => ?_) AllReadyH.nil
                    go_simp
                    go_wp2_with (first | (go_at_call 8; refine (sAn12 (some ⟨g, 0, none⟩) n d N ls _ HN.out.1 HD7.out.own.row HN.out.2.2.2 h12 _ _ _ _).mono ?_; rintro e w8 ⟨b', n', d', ls', y', rfl, ho, hn', hb8⟩))
                    have HO := hidP (And.intro ho hn')
                    have HB := hidP HD7.out.sz
                    have HD8 := hidP (HD7.out.below hb8)
                    clear ho hn' hb8
                    refine hK.out _ _ ?_ (fun hHeld => ?_)
                    · try dsimp only
                      exact HD8.out.elem HQ.out
                    clear hK K
                    refine wpAnyH_take (i := 15) (oi := ⟨some 25, _, _, _, _, _⟩) (v := ?_) rfl (by kernel_rfl) (by kernel_rfl) (by kernel_rfl) (fun _ _ _ h => h) (Or.inl ⟨by rfl, ?_⟩) (by assumption) ?_
                    rotate_left
                    · intro w hSw
                      try dsimp only at hSw
                      go_simp
                      try with_reducible rfl
                    simp only [Act.put, List.setIfInBounds_toArray, List.set_cons_zero, List.set_cons_succ]
                    refine wpAnyH_take (i := 16) (oi := ⟨some 41, _, _, _, _, _⟩) (v := ?_) rfl (by kernel_rfl) (by kernel_rfl) (by kernel_rfl) (fun _ _ _ h => h) (Or.inl ⟨by rfl, ?_⟩) (by assumption) ?_
                    rotate_left
                    · intro w hSw
                      try dsimp only at hSw
                      go_simp
                      try with_reducible rfl
                    simp only [Act.put, List.setIfInBounds_toArray, List.set_cons_zero, List.set_cons_succ]
                    refine wpAnyH_take (i := 17) (oi := ⟨some 42, _, _, _, _, _⟩) (v := ?_) rfl (by kernel_rfl) (by kernel_rfl) (by kernel_rfl) (fun _ _ _ h => h) (Or.inl ⟨by rfl, ?_⟩) (by assumption) ?_
                    rotate_left
                    · intro w hSw
                      try dsimp only at hSw
                      go_simp
                      try with_reducible rfl
                    simp only [Act.put, List.setIfInBounds_toArray, List.set_cons_zero, List.set_cons_succ]
                    refine wpAnyH_ready (rs := [18]) (by kernel_rfl) (by simp) ?_
                    refine AllReadyH.cons rfl (fun K hK => ?_) AllReadyH.nil
                    have s0 := HD8.out.d0
                    have s1 := HD8.out.d1
                    have sF := HD8.out.dF
                    go_simp
                    clear s0 s1 sF
                    refine hK.out _ _ ?_ (fun hHeld => ?_)
                    · try dsimp only
                      exact cell_set1 (cell_set1 (HD8.out.elem HQ.out) hgne) hgne
                    clear hK K
                    refine wpAnyH_done (by kernel_rfl) ?_ _
                    clear hHeld
                    go_wp2_with fail
                    go_roundw
                    case rel => exact ⟨i - 1, b', n', d', N, ls', by go_num, by omega, hN0, hN1, HD8.out.put HB.out HO.out.1 HO.out.2⟩
                    case measure => simp [intOf]; omega
                  · go_simp
                    go_wp2_with (first | (go_at_call 23; refine (l1Below_any c a len cap 200 _ HD6.out.cur).mono ?_; rintro e w7 ⟨⟨y, y0, y9, rfl⟩, hC7, hK7⟩))
                    have HD7 := hidP (HD6.out.keep hC7 hK7)
                    clear hC7 hK7 y9
                    refine hK.out _ _ ?_ (fun hHeld => ?_)
                    · try dsimp only
                      exact HD7.out.elem HQ.out
                    clear hK K
                    refine wpAnyH_ready (rs := [3]) (by kernel_rfl) (by simp) ?_
                    refine AllReadyH.cons rfl (fun K hK => ?_) AllReadyH.nil
                    have l0 := HD7.out.d0
                    go_simp
                    clear l0
                    refine hK.out _ _ ?_ (fun hHeld => ?_)
                    · try dsimp only
                      exact HD7.out.elem HQ.out
                    clear hK K
                    refine wpAnyH_take (i := 5) (oi := ⟨some 31, _, _, _, _, _⟩) (v := ?_) rfl (by kernel_rfl) (by kernel_rfl) (by kernel_rfl) (fun _ _ _ h => h) (Or.inl ⟨by rfl, ?_⟩) (by assumption) ?_
                    rotate_left
                    · intro w hSw
                      try dsimp only at hSw
                      go_simp
                      try with_reducible rfl
                    simp only [Act.put, List.setIfInBounds_toArray, List.set_cons_zero, List.set_cons_succ]
                    refine wpAnyH_take (i := 6) (oi := ⟨some 32, _, _, _, _, _⟩) (v := ?_) rfl (by kernel_rfl) (by kernel_rfl) (by kernel_rfl) (fun _ _ _ h => h) (Or.inl ⟨by rfl, ?_⟩) (by assumption) ?_
                    rotate_left
                    · intro w hSw
                      try dsimp only at hSw
                      go_simp
                      try with_reducible rfl
                    simp only [Act.put, List.setIfInBounds_toArray, List.set_cons_zero, List.set_cons_succ]
                    refine wpAnyH_take (i := 7) (oi := ⟨some 33, _, _, _, _, _⟩) (v := ?_) rfl (by kernel_rfl) (by kernel_rfl) (by kernel_rfl) (fun _ _ _ h => h) (Or.inl ⟨by rfl, ?_⟩) (by assumption) ?_
                    rotate_left
                    · intro w hSw
                      try dsimp only at hSw
                      go_simp
                      try with_reducible rfl
                    simp only [Act.put, List.setIfInBounds_toArray, List.set_cons_zero, List.set_cons_succ]
                    refine wpAnyH_take (i := 8) (oi := ⟨some 34, _, _, _, _, _⟩) (v := ?_) rfl (by kernel_rfl) (by kernel_rfl) (by kernel_rfl) (fun _ _ _ h => h) (Or.inl ⟨by rfl, ?_⟩) (by assumption) ?_
                    rotate_left
                    · intro w hSw
                      try dsimp only at hSw
                      go_simp
                      try with_reducible rfl
                    simp only [Act.put, List.setIfInBounds_toArray, List.set_cons_zero, List.set_cons_succ]
                    refine wpAnyH_ready (rs := [14]) (by kernel_rfl) (by simp) ?_
                    refine AllReadyH.cons rfl (fun K hK => ?_) AllReadyH.nil
                    go_simp
                    go_wp2_with (first | (go_at_call 8; refine (sAn12 (some ⟨g, 0, none⟩) n d N ls _ HN.out.1 HD7.out.own.row HN.out.2.2.2 h12 _ _ _ _).mono ?_; rintro e w8 ⟨b', n', d', ls', y', rfl, ho, hn', hb8⟩))
                    have HO := hidP (And.intro ho hn')
                    have HB := hidP HD7.out.sz
                    have HD8 := hidP (HD7.out.below hb8)
                    clear ho hn' hb8
                    refine hK.out _ _ ?_ (fun hHeld => ?_)
                    · try dsimp only
                      exact HD8.out.elem HQ.out
                    clear hK K
                    refine wpAnyH_take (i := 15) (oi := ⟨some 25, _, _, _, _, _⟩) (v := ?_) rfl (by kernel_rfl) (by kernel_rfl) (by kernel_rfl) (fun _ _ _ h => h) (Or.inl ⟨by rfl, ?_⟩) (by assumption) ?_
                    rotate_left
                    · intro w hSw
                      try dsimp only at hSw
                      go_simp
                      try with_reducible rfl
                    simp only [Act.put, List.setIfInBounds_toArray, List.set_cons_zero, List.set_cons_succ]
                    refine wpAnyH_take (i := 16) (oi := ⟨some 41, _, _, _, _, _⟩) (v := ?_) rfl (by kernel_rfl) (by kernel_rfl) (by kernel_rfl) (fun _ _ _ h => h) (Or.inl ⟨by rfl, ?_⟩) (by assumption) ?_
                    rotate_left
                    · intro w hSw
                      try dsimp only at hSw
                      go_simp
                      try with_reducible rfl
                    simp only [Act.put, List.setIfInBounds_toArray, List.set_cons_zero, List.set_cons_succ]
                    refine wpAnyH_take (i := 17) (oi := ⟨some 42, _, _, _, _, _⟩) (v := ?_) rfl (by kernel_rfl) (by kernel_rfl) (by kernel_rfl) (fun _ _ _ h => h) (Or.inl ⟨by rfl, ?_⟩) (by assumption) ?_
                    rotate_left
                    · intro w hSw
                      try dsimp only at hSw
                      go_simp
                      try with_reducible rfl
                    simp only [Act.put, List.setIfInBounds_toArray, List.set_cons_zero, List.set_cons_succ]
                    refine wpAnyH_ready (rs := [18]) (by kernel_rfl) (by simp) ?_
                    refine AllReadyH.cons rfl (fun K hK => ?_) AllReadyH.nil
                    have s0 := HD8.out.d0
                    have s1 := HD8.out.d1
                    have sF := HD8.out.dF
                    go_simp
                    clear s0 s1 sF
                    refine hK.out _ _ ?_ (fun hHeld => ?_)
                    · try dsimp only
                      exact cell_set1 (cell_set1 (HD8.out.elem HQ.out) hgne) hgne
                    clear hK K
                    refine wpAnyH_done (by kernel_rfl) ?_ _
                    clear hHeld
                    go_wp2_with fail
                    go_roundw
                    case rel => exact ⟨i - 1, b', n', d', N, ls', by go_num, by omega, hN0, hN1, HD8.out.put HB.out HO.out.1 HO.out.2⟩
                    case measure => simp [intOf]; omega
                · have l0 := HD6.out.d0
                  go_simp
                  clear l0
                  refine hK.out _ _ ?_ (fun hHeld => ?_)
                  · try dsimp only
                    exact HD6.out.elem HQ.out
                  clear hK K
                  refine wpAnyH_take (i := 5) (oi := ⟨some 31, _, _, _, _, _⟩) (v := ?_) rfl (by kernel_rfl) (by kernel_rfl) (by kernel_rfl) (fun _ _ _ h => h) (Or.inl ⟨by rfl, ?_⟩) (by assumption) ?_
                  rotate_left
                  · intro w hSw
                    try dsimp only at hSw
                    go_simp
                    try with_reducible rfl
                  simp only [Act.put, List.setIfInBounds_toArray, List.set_cons_zero, List.set_cons_succ]
                  refine wpAnyH_take (i := 6) (oi := ⟨some 32, _, _, _, _, _⟩) (v := ?_) rfl (by kernel_rfl) (by kernel_rfl) (by kernel_rfl) (fun _ _ _ h => h) (Or.inl ⟨by rfl, ?_⟩) (by assumption) ?_
                  rotate_left
                  · intro w hSw
                    try dsimp only at hSw
                    go_simp
                    try with_reducible rfl
                  simp only [Act.put, List.setIfInBounds_toArray, List.set_cons_zero, List.set_cons_succ]
                  refine wpAnyH_take (i := 7) (oi := ⟨some 33, _, _, _, _, _⟩) (v := ?_) rfl (by kernel_rfl) (by kernel_rfl) (by kernel_rfl) (fun _ _ _ h => h) (Or.inl ⟨by rfl, ?_⟩) (by assumption) ?_
                  rotate_left
                  · intro w hSw
                    try dsimp only at hSw
                    go_simp
                    try with_reducible rfl
                  simp only [Act.put, List.setIfInBounds_toArray, List.set_cons_zero, List.set_cons_succ]
                  refine wpAnyH_take (i := 8) (oi := ⟨some 34, _, _, _, _, _⟩) (v := ?_) rfl (by kernel_rfl) (by kernel_rfl) (by kernel_rfl) (fun _ _ _ h => h) (Or.inl ⟨by rfl, ?_⟩) (by assumption) ?_
                  rotate_left
                  · intro w hSw
                    try dsimp only at hSw
                    go_simp
                    try with_reducible rfl
                  simp only [Act.put, List.setIfInBounds_toArray, List.set_cons_zero, List.set_cons_succ]
                  refine wpAnyH_ready (rs := [0, 13]) (by kernel_rfl) (by simp) ?_
                  refine AllReadyH.cons rfl (fun K hK => ?_) (AllReadyH.cons rfl (fun K hK => ?_) AllReadyH.nil)
                  · have l0 := HD6.out.d0
                    have l1 := HD6.out.d1
                    go_simp
                    clear l0 l1
                    refine hK.out _ _ ?_ (fun hHeld => ?_)
                    · try dsimp only
                      exact HD6.out.elem HQ.out
                    clear hK K
                    refine wpAnyH_ready (rs := [13]) (by kernel_rfl) (by simp) ?_
                    refine AllReadyH.cons rfl (fun K hK => ?_) AllReadyH.nil
                    go_simp
                    go_wp2_with (first | (go_at_call 23; refine (l1Below_any c a len cap 200 _ HD6.out.cur).mono ?_; rintro e w7 ⟨⟨y, y0, y9, rfl⟩, hC7, hK7⟩))
                    have HD7 := hidP (HD6.out.keep hC7 hK7)
                    clear hC7 hK7 y9
                    refine hK.out _ _ ?_ (fun hHeld => ?_)
                    · try dsimp only
                      exact HD7.out.elem HQ.out
                    clear hK K
                    refine wpAnyH_ready (rs := [14]) (by kernel_rfl) (by simp) ?_
                    refine AllReadyH.cons rfl (fun K hK => ?_) AllReadyH.nil
                    go_simp
                    go_wp2_with (first | (go_at_call 8; refine (sAn12 (some ⟨g, 0, none⟩) n d N ls _ HN.out.1 HD7.out.own.row HN.out.2.2.2 h12 _ _ _ _).mono ?_; rintro e w8 ⟨b', n', d', ls', y', rfl, ho, hn', hb8⟩))
                    have HO := hidP (And.intro ho hn')
                    have HB := hidP HD7.out.sz
                    have HD8 := hidP (HD7.out.below hb8)
                    clear ho hn' hb8
                    refine hK.out _ _ ?_ (fun hHeld => ?_)
                    · try dsimp only
                      exact HD8.out.elem HQ.out
                    clear hK K
                    refine wpAnyH_take (i := 15) (oi := ⟨some 25, _, _, _, _, _⟩) (v := ?_) rfl (by kernel_rfl) (by kernel_rfl) (by kernel_rfl) (fun _ _ _ h => h) (Or.inl ⟨by rfl, ?_⟩) (by assumption) ?_
                    rotate_left
                    · intro w hSw
                      try dsimp only at hSw
                      go_simp
                      try with_reducible rfl
                    simp only [Act.put, List.setIfInBounds_toArray, List.set_cons_zero, List.set_cons_succ]
                    refine wpAnyH_take (i := 16) (oi := ⟨some 41, _, _, _, _, _⟩) (v := ?_) rfl (by kernel_rfl) (by kernel_rfl) (by kernel_rfl) (fun _ _ _ h => h) (Or.inl ⟨by rfl, ?_⟩) (by assumption) ?_
                    rotate_left
                    · intro w hSw
                      try dsimp only at hSw
                      go_simp
                      try with_reducible rfl
                    simp only [Act.put, List.setIfInBounds_toArray, List.set_cons_zero, List.set_cons_succ]
                    refine wpAnyH_take (i := 17) (oi := ⟨some 42, _, _, _, _, _⟩) (v := ?_) rfl (by kernel_rfl) (by kernel_rfl) (by kernel_rfl) (fun _ _ _ h => h) (Or.inl ⟨by rfl, ?_⟩) (by assumption) ?_
                    rotate_left
                    · intro w hSw
                      try dsimp only at hSw
                      go_simp
                      try with_reducible rfl
                    simp only [Act.put, List.setIfInBounds_toArray, List.set_cons_zero, List.set_cons_succ]
                    refine wpAnyH_ready (rs := [18]) (by kernel_rfl) (by simp) ?_
                    refine AllReadyH.cons rfl (fun K hK => ?_) AllReadyH.nil
                    have s0 := HD8.out.d0
                    have s1 := HD8.out.d1
                    have sF := HD8.out.dF
                    go_simp
                    clear s0 s1 sF
                    refine hK.out _ _ ?_ (fun hHeld => ?_)
                    · try dsimp only
                      exact cell_set1 (cell_set1 (HD8.out.elem HQ.out) hgne) hgne
                    clear hK K
                    refine wpAnyH_done (by kernel_rfl) ?_ _
                    clear hHeld
                    go_wp2_with fail
                    go_roundw
                    case rel => exact ⟨i - 1, b', n', d', N, ls', by go_num, by omega, hN0, hN1, HD8.out.put HB.out HO.out.1 HO.out.2⟩
                    case measure => simp [intOf]; omega
                  · go_simp
                    go_wp2_with (first | (go_at_call 23; refine (l1Below_any c a len cap 200 _ HD6.out.cur).mono ?_; rintro e w7 ⟨⟨y, y0, y9, rfl⟩, hC7, hK7⟩))
                    have HD7 := hidP (HD6.out.keep hC7 hK7)
                    clear hC7 hK7 y9
                    refine hK.out _ _ ?_ (fun hHeld => ?_)
                    · try dsimp only
                      exact HD7.out.elem HQ.out
                    clear hK K
                    refine wpAnyH_ready (rs := [0]) (by kernel_rfl) (by simp) ?_
                    refine AllReadyH.cons rfl (fun K hK => ?_) AllReadyH.nil
                    have l0 := HD7.out.d0
                    have l1 := HD7.out.d1
                    go_simp
                    clear l0 l1
                    refine hK.out _ _ ?_ (fun hHeld => ?_)
                    · try dsimp only
                      exact HD7.out.elem HQ.out
                    clear hK K
                    refine wpAnyH_ready (rs := [14]) (by kernel_rfl) (by simp) ?_
                    refine AllReadyH.cons rfl (fun K hK => ?_) AllReadyH.nil
                    go_simp
                    go_wp2_with (first | (go_at_call 8; refine (sAn12 (some ⟨g, 0, none⟩) n d N ls _ HN.out.1 HD7.out.own.row HN.out.2.2.2 h12 _ _ _ _).mono ?_; rintro e w8 ⟨b', n', d', ls', y', rfl, ho, hn', hb8⟩))
                    have HO := hidP (And.intro ho hn')
                    have HB := hidP HD7.out.sz
                    have HD8 := hidP (HD7.out.below hb8)
                    clear ho hn' hb8
                    refine hK.out _ _ ?_ (fun hHeld => ?_)
                    · try dsimp only
                      exact HD8.out.elem HQ.out
                    clear hK K
                    refine wpAnyH_take (i := 15) (oi := ⟨some 25, _, _, _, _, _⟩) (v := ?_) rfl (by kernel_rfl) (by kernel_rfl) (by kernel_rfl) (fun _ _ _ h => h) (Or.inl ⟨by rfl, ?_⟩) (by assumption) ?_
                    rotate_left
                    · intro w hSw
                      try dsimp only at hSw
                      go_simp
                      try with_reducible rfl
                    simp only [Act.put, List.setIfInBounds_toArray, List.set_cons_zero, List.set_cons_succ]
                    refine wpAnyH_take (i := 16) (oi := ⟨some 41, _, _, _, _, _⟩) (v := ?_) rfl (by kernel_rfl) (by kernel_rfl) (by kernel_rfl) (fun _ _ _ h => h) (Or.inl ⟨by rfl, ?_⟩) (by assumption) ?_
                    rotate_left
                    · intro w hSw
                      try dsimp only at hSw
                      go_simp
                      try with_reducible rfl
                    simp only [Act.put, List.setIfInBounds_toArray, List.set_cons_zero, List.set_cons_succ]
                    refine wpAnyH_take (i := 17) (oi := ⟨some 42, _, _, _, _, _⟩) (v := ?_) rfl (by kernel_rfl) (by kernel_rfl) (by kernel_rfl) (fun _ _ _ h => h) (Or.inl ⟨by rfl, ?_⟩) (by assumption) ?_
                    rotate_left
                    · intro w hSw
                      try dsimp only at hSw
                      go_simp
                      try with_reducible rfl
                    simp only [Act.put, List.setIfInBounds_toArray, List.set_cons_zero, List.set_cons_succ]
                    refine wpAnyH_ready (rs := [18]) (by kernel_rfl) (by simp) ?_
                    refine AllReadyH.cons rfl (fun K hK => ?_) AllReadyH.nil
                    have s0 := HD8.out.d0
                    have s1 := HD8.out.d1
                    have sF := HD8.out.dF
                    go_simp
                    clear s0 s1 sF
                    refine hK.out _ _ ?_ (fun hHeld => ?_)
                    · try dsimp only
                      exact cell_set1 (cell_set1 (HD8.out.elem HQ.out) hgne) hgne
                    clear hK K
                    refine wpAnyH_done (by kernel_rfl) ?_ _
                    clear hHeld
                    go_wp2_with fail
                    go_roundw
                    case rel => exact ⟨i - 1, b', n', d', N, ls', by go_num, by omega, hN0, hN1, HD8.out.put HB.out HO.out.1 HO.out.2⟩
                    case measure => simp [intOf]; omega
                · go_simp
                  go_wp2_with (first | (go_at_call 23; refine (l1Below_any c a len cap 200 _ HD6.out.cur).mono ?_; rintro e w7 ⟨⟨y, y0, y9, rfl⟩, hC7, hK7⟩))
                  have HD7 := hidP (HD6.out.keep hC7 hK7)
                  clear hC7 hK7 y9
                  refine hK.out _ _ ?_ (fun hHeld => ?_)
                  · try dsimp only
                    exact HD7.out.elem HQ.out
                  clear hK K
                  refine wpAnyH_ready (rs := [0, 3]) (by kernel_rfl) (by simp) ?_
                  refine AllReadyH.cons rfl (fun K hK => ?_) (AllReadyH.cons rfl (fun K hK => ?_) AllReadyH.nil)
                  · have l0 := HD7.out.d0
                    have l1 := HD7.out.d1
                    go_simp
                    clear l0 l1
                    refine hK.out _ _ ?_ (fun hHeld => ?_)
                    · try dsimp only
                      exact HD7.out.elem HQ.out
                    clear hK K
                    refine wpAnyH_ready (rs := [3]) (by kernel_rfl) (by simp) ?_
                    refine AllReadyH.cons rfl (fun K hK => ?_) AllReadyH.nil
                    have l0 := HD7.out.d0
                    go_simp
                    clear l0
                    refine hK.out _ _ ?_ (fun hHeld => ?_)
                    · try dsimp only
                      exact HD7.out.elem HQ.out
                    clear hK K
                    refine wpAnyH_take (i := 5) (oi := ⟨some 31, _, _, _, _, _⟩) (v := ?_) rfl (by kernel_rfl) (by kernel_rfl) (by kernel_rfl) (fun _ _ _ h => h) (Or.inl ⟨by rfl, ?_⟩) (by assumption) ?_
                    rotate_left
                    · intro w hSw
                      try dsimp only at hSw
                      go_simp
                      try with_reducible rfl
                    simp only [Act.put, List.setIfInBounds_toArray, List.set_cons_zero, List.set_cons_succ]
                    refine wpAnyH_take (i := 6) (oi := ⟨some 32, _, _, _, _, _⟩) (v := ?_) rfl (by kernel_rfl) (by kernel_rfl) (by kernel_rfl) (fun _ _ _ h => h) (Or.inl ⟨by rfl, ?_⟩) (by assumption) ?_
                    rotate_left
                    · intro w hSw
                      try dsimp only at hSw
                      go_simp
                      try with_reducible rfl
                    simp only [Act.put, List.setIfInBounds_toArray, List.set_cons_zero, List.set_cons_succ]
                    refine wpAnyH_take (i := 7) (oi := ⟨some 33, _, _, _, _, _⟩) (v := ?_) rfl (by kernel_rfl) (by kernel_rfl) (by kernel_rfl) (fun _ _ _ h => h) (Or.inl ⟨by rfl, ?_⟩) (by assumption) ?_
                    rotate_left
                    · intro w hSw
                      try dsimp only at hSw
                      go_simp
                      try with_reducible rfl
                    simp only [Act.put, List.setIfInBounds_toArray, List.set_cons_zero, List.set_cons_succ]
                    refine wpAnyH_take (i := 8) (oi := ⟨some 34, _, _, _, _, _⟩) (v := ?_) rfl (by kernel_rfl) (by kernel_rfl) (by kernel_rfl) (fun _ _ _ h => h) (Or.inl ⟨by rfl, ?_⟩) (by assumption) ?_
                    rotate_left
                    · intro w hSw
                      try dsimp only at hSw
                      go_simp
                      try with_reducible rfl
                    simp only [Act.put, List.setIfInBounds_toArray, List.set_cons_zero, List.set_cons_succ]
                    refine wpAnyH_ready (rs := [14]) (by kernel_rfl) (by simp) ?_
                    refine AllReadyH.cons rfl (fun K hK => ?_) AllReadyH.nil
                    go_simp
                    go_wp2_with (first | (go_at_call 8; refine (sAn12 (some ⟨g, 0, none⟩) n d N ls _ HN.out.1 HD7.out.own.row HN.out.2.2.2 h12 _ _ _ _).mono ?_; rintro e w8 ⟨b', n', d', ls', y', rfl, ho, hn', hb8⟩))
                    have HO := hidP (And.intro ho hn')
                    have HB := hidP HD7.out.sz
                    have HD8 := hidP (HD7.out.below hb8)
                    clear ho hn' hb8
                    refine hK.out _ _ ?_ (fun hHeld => ?_)
                    · try dsimp only
                      exact HD8.out.elem HQ.out
                    clear hK K
                    refine wpAnyH_take (i := 15) (oi := ⟨some 25, _, _, _, _, _⟩) (v := ?_) rfl (by kernel_rfl) (by kernel_rfl) (by kernel_rfl) (fun _ _ _ h => h) (Or.inl ⟨by rfl, ?_⟩) (by assumption) ?_
                    rotate_left
                    · intro w hSw
                      try dsimp only at hSw
                      go_simp
                      try with_reducible rfl
                    simp only [Act.put, List.setIfInBounds_toArray, List.set_cons_zero, List.set_cons_succ]
                    refine wpAnyH_take (i := 16) (oi := ⟨some 41, _, _, _, _, _⟩) (v := ?_) rfl (by kernel_rfl) (by kernel_rfl) (by kernel_rfl) (fun _ _ _ h => h) (Or.inl ⟨by rfl, ?_⟩) (by assumption) ?_
                    rotate_left
                    · intro w hSw
                      try dsimp only at hSw
                      go_simp
                      try with_reducible rfl
                    simp only [Act.put, List.setIfInBounds_toArray, List.set_cons_zero, List.set_cons_succ]
                    refine wpAnyH_take (i := 17) (oi := ⟨some 42, _, _, _, _, _⟩) (v := ?_) rfl (by kernel_rfl) (by kernel_rfl) (by kernel_rfl) (fun _ _ _ h => h) (Or.inl ⟨by rfl, ?_⟩) (by assumption) ?_
                    rotate_left
                    · intro w hSw
                      try dsimp only at hSw
                      go_simp
                      try with_reducible rfl
                    simp only [Act.put, List.setIfInBounds_toArray, List.set_cons_zero, List.set_cons_succ]
                    refine wpAnyH_ready (rs := [18]) (by kernel_rfl) (by simp) ?_
                    refine AllReadyH.cons rfl (fun K hK => ?_) AllReadyH.nil
                    have s0 := HD8.out.d0
                    have s1 := HD8.out.d1
                    have sF := HD8.out.dF
                    go_simp
                    clear s0 s1 sF
                    refine hK.out _ _ ?_ (fun hHeld => ?_)
                    · try dsimp only
                      exact cell_set1 (cell_set1 (HD8.out.elem HQ.out) hgne) hgne
                    clear hK K
                    refine wpAnyH_done (by kernel_rfl) ?_ _
                    clear hHeld
                    go_wp2_with fail
                    go_roundw
                    case rel => exact ⟨i - 1, b', n', d', N, ls', by go_num, by omega, hN0, hN1, HD8.out.put HB.out HO.out.1 HO.out.2⟩
                    case measure => simp [intOf]; omega
                  · have l0 := HD7.out.d0
                    go_simp
                    clear l0
                    refine hK.out _ _ ?_ (fun hHeld => ?_)
                    · try dsimp only
                      exact HD7.out.elem HQ.out
                    clear hK K
                    refine wpAnyH_take (i := 5) (oi := ⟨some 31, _, _, _, _, _⟩) (v := ?_) rfl (by kernel_rfl) (by kernel_rfl) (by kernel_rfl) (fun _ _ _ h => h) (Or.inl ⟨by rfl, ?_⟩) (by assumption) ?_
                    rotate_left
                    · intro w hSw
                      try dsimp only at hSw
                      go_simp
                      try with_reducible rfl
                    simp only [Act.put, List.setIfInBounds_toArray, List.set_cons_zero, List.set_cons_succ]
                    refine wpAnyH_take (i := 6) (oi := ⟨some 32, _, _, _, _, _⟩) (v := ?_) rfl (by kernel_rfl) (by kernel_rfl) (by kernel_rfl) (fun _ _ _ h => h) (Or.inl ⟨by rfl, ?_⟩) (by assumption) ?_
                    rotate_left
                    · intro w hSw
                      try dsimp only at hSw
                      go_simp
                      try with_reducible rfl
                    simp only [Act.put, List.setIfInBounds_toArray, List.set_cons_zero, List.set_cons_succ]
                    refine wpAnyH_take (i := 7) (oi := ⟨some 33, _, _, _, _, _⟩) (v := ?_) rfl (by kernel_rfl) (by kernel_rfl) (by kernel_rfl) (fun _ _ _ h => h) (Or.inl ⟨by rfl, ?_⟩) (by assumption) ?_
                    rotate_left
                    · intro w hSw
                      try dsimp only at hSw
                      go_simp
                      try with_reducible rfl
                    simp only [Act.put, List.setIfInBounds_toArray, List.set_cons_zero, List.set_cons_succ]
                    refine wpAnyH_take (i := 8) (oi := ⟨some 34, _, _, _, _, _⟩) (v := ?_) rfl (by kernel_rfl) (by kernel_rfl) (by kernel_rfl) (fun _ _ _ h => h) (Or.inl ⟨by rfl, ?_⟩) (by assumption) ?_
                    rotate_left
                    · intro w hSw
                      try dsimp only at hSw
                      go_simp
                      try with_reducible rfl
                    simp only [Act.put, List.setIfInBounds_toArray, List.set_cons_zero, List.set_cons_succ]
                    refine wpAnyH_ready (rs := [0]) (by kernel_rfl) (by simp) ?_
                    refine AllReadyH.cons rfl (fun K hK => ?_) AllReadyH.nil
                    have l0 := HD7.out.d0
                    have l1 := HD7.out.d1
                    go_simp
                    clear l0 l1
                    refine hK.out _ _ ?_ (fun hHeld => ?_)
                    · try dsimp only
                      exact HD7.out.elem HQ.out
                    clear hK K
                    refine wpAnyH_ready (rs := [14]) (by kernel_rfl) (by simp) ?_
                    refine AllReadyH.cons rfl (fun K hK => ?_) AllReadyH.nil
                    go_simp
                    go_wp2_with (first | (go_at_call 8; refine (sAn12 (some ⟨g, 0, none⟩) n d N ls _ HN.out.1 HD7.out.own.row HN.out.2.2.2 h12 _ _ _ _).mono ?_; rintro e w8 ⟨b', n', d', ls', y', rfl, ho, hn', hb8⟩))
                    have HO := hidP (And.intro ho hn')
                    have HB := hidP HD7.out.sz
                    have HD8 := hidP (HD7.out.below hb8)
                    clear ho hn' hb8
                    refine hK.out _ _ ?_ (fun hHeld => ?_)
                    · try dsimp only
                      exact HD8.out.elem HQ.out
                    clear hK K
                    refine wpAnyH_take (i := 15) (oi := ⟨some 25, _, _, _, _, _⟩) (v := ?_) rfl (by kernel_rfl) (by kernel_rfl) (by kernel_rfl) (fun _ _ _ h => h) (Or.inl ⟨by rfl, ?_⟩) (by assumption) ?_
                    rotate_left
                    · intro w hSw
                      try dsimp only at hSw
                      go_simp
                      try with_reducible rfl
                    simp only [Act.put, List.setIfInBounds_toArray, List.set_cons_zero, List.set_cons_succ]
                    refine wpAnyH_take (i := 16) (oi := ⟨some 41, _, _, _, _, _⟩) (v := ?_) rfl (by kernel_rfl) (by kernel_rfl) (by kernel_rfl) (fun _ _ _ h => h) (Or.inl ⟨by rfl, ?_⟩) (by assumption) ?_
                    rotate_left
                    · intro w hSw
                      try dsimp only at hSw
                      go_simp
                      try with_reducible rfl
                    simp only [Act.put, List.setIfInBounds_toArray, List.set_cons_zero, List.set_cons_succ]
                    refine wpAnyH_take (i := 17) (oi := ⟨some 42, _, _, _, _, _⟩) (v := ?_) rfl (by kernel_rfl) (by kernel_rfl) (by kernel_rfl) (fun _ _ _ h => h) (Or.inl ⟨by rfl, ?_⟩) (by assumption) ?_
                    rotate_left
                    · intro w hSw
                      try dsimp only at hSw
                      go_simp
                      try with_reducible rfl
                    simp only [Act.put, List.setIfInBounds_toArray, List.set_cons_zero, List.set_cons_succ]
                    refine wpAnyH_ready (rs := [18]) (by kernel_rfl) (by simp) ?_
                    refine AllReadyH.cons rfl (fun K hK => ?_) AllReadyH.nil
                    have s0 := HD8.out.d0
                    have s1 := HD8.out.d1
                    have sF := HD8.out.dF
                    go_simp
                    clear s0 s1 sF
                    refine hK.out _ _ ?_ (fun hHeld => ?_)
                    · try dsimp only
                      exact cell_set1 (cell_set1 (HD8.out.elem HQ.out) hgne) hgne
                    clear hK K
                    refine wpAnyH_done (by kernel_rfl) ?_ _
                    clear hHeld
                    go_wp2_with fail
                    go_roundw
                    case rel => exact ⟨i - 1, b', n', d', N, ls', by go_num, by omega, hN0, hN1, HD8.out.put HB.out HO.out.1 HO.out.2⟩
                    case measure => simp [intOf]; omega
          · have p0 := HD4.out.d0
            have p1 := HD4.out.d1
            go_wp2_with fail
            refine (sCl12 b n d N ls _ HN.out.1 HD4.out.own.row HN.out.2.2.2 (by have := HN.out; omega) HN.out.2.2.1 (fun h => own_some HD4.out.own h) h12 _).mono ?_
            rintro e w5 ⟨b', n', d', ls', y, rfl, ho, hn', hb5⟩
            have HO := hidP (And.intro ho hn')
            have HD5 := hidP (HD4.out.below hb5)
            have HB5 := hidP HD4.out.sz
            clear ho hn' hb5 p0 p1
            have p0 := HD5.out.d0
            have p1 := HD5.out.d1
            have pF := HD5.out.dF
            go_wp2_with fail
            go_roundw
            case rel => exact ⟨i - 1, b', n', d', N, ls', by go_num, by omega, hN0, hN1, HD5.out.put HB5.out HO.out.1 HO.out.2⟩
            case measure => simp [intOf]; omega
        · go_wp2_with fail
          have HD3d := hidP (HD3.out.drew)
          refine wp_region_held_drew (S := fun _ => True) (by kernel_rfl) trivial (fun hHeld => ?_)
          refine wpAnyH_take (i := 1) (oi := ⟨some 52, _, _, _, _, _⟩) (v := ?_) rfl (by kernel_rfl) (by kernel_rfl) (by kernel_rfl) (fun _ _ _ h => h) (Or.inl ⟨by rfl, ?_⟩) (by assumption) ?_
          rotate_left
          · intro w hSw
            try dsimp only at hSw
            go_simp
            try with_reducible rfl
          simp only [Act.put, List.setIfInBounds_toArray, List.set_cons_zero, List.set_cons_succ]
          refine wpAnyH_ready (rs := [0, 2]) (by kernel_rfl) (by simp) ?_
          refine AllReadyH.cons rfl (fun K hK => ?_) (AllReadyH.cons rfl (fun K hK => ?_) AllReadyH.nil)
          · have l0 := HD3d.out.d0
            have l1 := HD3d.out.d1
            go_simp
            clear l0 l1
            refine hK.out _ _ trivial (fun hHeld => ?_)
            clear hK K
            refine wpAnyH_ready (rs := [2]) (by kernel_rfl) (by simp) ?_
            refine AllReadyH.cons rfl (fun K hK => ?_) AllReadyH.nil
            go_simp
            go_wp2_with (first | (go_at_call 23; refine (l1Below_any c a len cap 100 _ HD3d.out.cur).mono ?_; rintro e w5 ⟨⟨y, y0, y9, rfl⟩, hC5, hK5⟩))
            have HD5 := hidP (HD3d.out.keep hC5 hK5)
            clear hC5 hK5 y9
            refine hK.out _ _ trivial (fun hHeld => ?_)
            clear hK K
            refine wpAnyH_ready (rs := [3]) (by kernel_rfl) (by simp) ?_
            refine AllReadyH.cons rfl (fun K hK => ?_) AllReadyH.nil
            go_simp
            go_wp2_with (first | (go_at_call 15; refine (sOp12 b n d N ls _ HN.out.1 HD5.out.own.row HN.out.2.2.2 h12 hN0 hN1 _).mono ?_; rintro e w6 ⟨b', n', d', N', ls', y', rfl, ho, hn', hN0', hN1', hb6⟩))
            have HO := hidP (And.intro ho (And.intro hn' (And.intro hN0' hN1')))
            have HB := hidP HD5.out.sz
            have HD6 := hidP (HD5.out.below hb6)
            clear ho hn' hN0' hN1' hb6
            refine hK.out _ _ trivial (fun hHeld => ?_)
            clear hK K
            refine wpAnyH_take (i := 4) (oi := ⟨some 50, _, _, _, _, _⟩) (v := ?_) rfl (by kernel_rfl) (by kernel_rfl) (by kernel_rfl) (fun _ _ _ h => h) (Or.inl ⟨by rfl, ?_⟩) (by assumption) ?_
            rotate_left
            · intro w hSw
              try dsimp only at hSw
              go_simp
              try with_reducible rfl
            simp only [Act.put, List.setIfInBounds_toArray, List.set_cons_zero, List.set_cons_succ]
            refine wpAnyH_take (i := 5) (oi := ⟨some 55, _, _, _, _, _⟩) (v := ?_) rfl (by kernel_rfl) (by kernel_rfl) (by kernel_rfl) (fun _ _ _ h => h) (Or.inl ⟨by rfl, ?_⟩) (by assumption) ?_
            rotate_left
            · intro w hSw
              try dsimp only at hSw
              go_simp
              try with_reducible rfl
            simp only [Act.put, List.setIfInBounds_toArray, List.set_cons_zero, List.set_cons_succ]
            refine wpAnyH_take (i := 6) (oi := ⟨some 56, _, _, _, _, _⟩) (v := ?_) rfl (by kernel_rfl) (by kernel_rfl) (by kernel_rfl) (fun _ _ _ h => h) (Or.inl ⟨by rfl, ?_⟩) (by assumption) ?_
            rotate_left
            · intro w hSw
              try dsimp only at hSw
              go_simp
              try with_reducible rfl
            simp only [Act.put, List.setIfInBounds_toArray, List.set_cons_zero, List.set_cons_succ]
            refine wpAnyH_ready (rs := [7]) (by kernel_rfl) (by simp) ?_
            refine AllReadyH.cons rfl (fun K hK => ?_) AllReadyH.nil
            have s0 := HD6.out.d0
            have s1 := HD6.out.d1
            have sF := HD6.out.dF
            go_simp
            clear s0 s1 sF
            refine hK.out _ _ trivial (fun hHeld => ?_)
            clear hK K
            refine wpAnyH_done (by kernel_rfl) ?_ _
            clear hHeld
            go_wp2_with fail
            go_roundw
            case rel => exact ⟨i - 1, b', n', d', N', ls', by go_num, by omega, HO.out.2.2.1, HO.out.2.2.2, HD6.out.put HB.out HO.out.1 HO.out.2.1⟩
            case measure => simp [intOf]; omega
          · go_simp
            go_wp2_with (first | (go_at_call 23; refine (l1Below_any c a len cap 100 _ HD3d.out.cur).mono ?_; rintro e w5 ⟨⟨y, y0, y9, rfl⟩, hC5, hK5⟩))
            have HD5 := hidP (HD3d.out.keep hC5 hK5)
            clear hC5 hK5 y9
            refine hK.out _ _ trivial (fun hHeld => ?_)
            clear hK K
            refine wpAnyH_ready (rs := [0]) (by kernel_rfl) (by simp) ?_
            refine AllReadyH.cons rfl (fun K hK => ?_) AllReadyH.nil
            have l0 := HD5.out.d0
            have l1 := HD5.out.d1
            go_simp
            clear l0 l1
            refine hK.out _ _ trivial (fun hHeld => ?_)
            clear hK K
            refine wpAnyH_ready (rs := [3]) (by kernel_rfl) (by simp) ?_
            refine AllReadyH.cons rfl (fun K hK => ?_) AllReadyH.nil
            go_simp
            go_wp2_with (first | (go_at_call 15; refine (sOp12 b n d N ls _ HN.out.1 HD5.out.own.row HN.out.2.2.2 h12 hN0 hN1 _).mono ?_; rintro e w6 ⟨b', n', d', N', ls', y', rfl, ho, hn', hN0', hN1', hb6⟩))
            have HO := hidP (And.intro ho (And.intro hn' (And.intro hN0' hN1')))
            have HB := hidP HD5.out.sz
            have HD6 := hidP (HD5.out.below hb6)
            clear ho hn' hN0' hN1' hb6
            refine hK.out _ _ trivial (fun hHeld => ?_)
            clear hK K
            refine wpAnyH_take (i := 4) (oi := ⟨some 50, _, _, _, _, _⟩) (v := ?_) rfl (by kernel_rfl) (by kernel_rfl) (by kernel_rfl) (fun _ _ _ h => h) (Or.inl ⟨by rfl, ?_⟩) (by assumption) ?_
            rotate_left
            · intro w hSw
              try dsimp only at hSw
              go_simp
              try with_reducible rfl
            simp only [Act.put, List.setIfInBounds_toArray, List.set_cons_zero, List.set_cons_succ]
            refine wpAnyH_take (i := 5) (oi := ⟨some 55, _, _, _, _, _⟩) (v := ?_) rfl (by kernel_rfl) (by kernel_rfl) (by kernel_rfl) (fun _ _ _ h => h) (Or.inl ⟨by rfl, ?_⟩) (by assumption) ?_
            rotate_left
            · intro w hSw
              try dsimp only at hSw
              go_simp
              try with_reducible rfl
            simp only [Act.put, List.setIfInBounds_toArray, List.set_cons_zero, List.set_cons_succ]
            refine wpAnyH_take (i := 6) (oi := ⟨some 56, _, _, _, _, _⟩) (v := ?_) rfl (by kernel_rfl) (by kernel_rfl) (by kernel_rfl) (fun _ _ _ h => h) (Or.inl ⟨by rfl, ?_⟩) (by assumption) ?_
            rotate_left
            · intro w hSw
              try dsimp only at hSw
              go_simp
              try with_reducible rfl
            simp only [Act.put, List.setIfInBounds_toArray, List.set_cons_zero, List.set_cons_succ]
            refine wpAnyH_ready (rs := [7]) (by kernel_rfl) (by simp) ?_
            refine AllReadyH.cons rfl (fun K hK => ?_) AllReadyH.nil
            have s0 := HD6.out.d0
            have s1 := HD6.out.d1
            have sF := HD6.out.dF
            go_simp
            clear s0 s1 sF
            refine hK.out _ _ trivial (fun hHeld => ?_)
            clear hK K
            refine wpAnyH_done (by kernel_rfl) ?_ _
            clear hHeld
            go_wp2_with fail
            go_roundw
            case rel => exact ⟨i - 1, b', n', d', N', ls', by go_num, by omega, HO.out.2.2.1, HO.out.2.2.2, HD6.out.put HB.out HO.out.1 HO.out.2.1⟩
            case measure => simp [intOf]; omega
    · have g0 : decide ((0 : Int) < (i : Int)) = false := decide_eq_false (by omega)
      go_wp2_with fail
      refine (l1Below_any c a len cap 16 _ HD0.out.cur).mono ?_
      rintro e w1 ⟨⟨x, x0, x9, rfl⟩, hC1, hK1⟩
      have HD1 := hidP (HD0.out.keep hC1 hK1)
      clear hC1 hK1 x9
      have fin : ∀ (X : World) (N' : Int) (ls' : List Ss) (u v : Value), n = ls'.length → DkI c a len cap W X b n d N' ls' → ∃ b n d N ls, Ending.returned (.agg #[.slice b n d, .int .i64 N]) = .returned (.agg #[.slice b n d, .int .i64 N]) ∧ n = ls.length ∧ n ≤ 12 ∧ OwnG KSs 39 ((X.setCell ⟨W.heap.size, 0, none⟩ u).setCell ⟨W.heap.size, 1, none⟩ v) W.heap.size (.slice b n d) ls ∧ Cur ((X.setCell ⟨W.heap.size, 0, none⟩ u).setCell ⟨W.heap.size, 1, none⟩ v) c a len cap ∧ Kp c W ((X.setCell ⟨W.heap.size, 0, none⟩ u).setCell ⟨W.heap.size, 1, none⟩ v) :=
        fun X N' ls' u v hl h => ⟨b, n, d, N', ls', rfl, hl, h12, (h.fin u v).2.2, (h.fin u v).1, (h.fin u v).2.1⟩
      have FIN := hidP fin
      clear fin
      cases hx0 : (x == 0)
      · cases hx1 : (x == 1)
        · have p0 := HD1.out.d0
          have p1 := HD1.out.d1
          have q0 := HD1.out.r0
          have q1 := HD1.out.r1
          have qF := HD1.out.rF
          go_wp2_with fail
          refine bodyPost_ret (v := .agg #[.slice b n d, .int .i64 N]) (by simp [results, Try.results18, go_sem, q0, q1]) rfl ⟨b, n, d, N, ls, rfl, HN.out.1, h12, (HD1.out.fin _ _).2.2, (HD1.out.fin _ _).1, (HD1.out.fin _ _).2.1⟩
        · by_cases hn0 : 0 < n
          · have gn : decide ((0 : Int) < (n : Int)) = true := decide_eq_true (by omega)
            obtain ⟨g, rfl⟩ := own_some HD1.out.own hn0
            have p0 := HD1.out.d0
            go_wp2_with fail
            have HD1d := hidP (HD1.out.drew)
            refine wp_region_held_drew (S := (fun X => X.cell? ⟨W.heap.size + 1, 0, none⟩ = some (.slice (some ⟨g, 0, none⟩) n d))) (by kernel_rfl) ?_ (fun hHeld => ?_)
            · try dsimp only
              exact HD1d.out.d0
            refine wpAnyH_take (i := 0) (oi := ⟨some 80, _, _, _, _, _⟩) (v := ?_) rfl (by kernel_rfl) (by kernel_rfl) (by kernel_rfl) (fun _ _ _ h => h) (Or.inl ⟨by rfl, ?_⟩) (by assumption) ?_
            rotate_left
            · intro w hSw
              try dsimp only at hSw
              go_simp
              try with_reducible rfl
            simp only [Act.put, List.setIfInBounds_toArray, List.set_cons_zero, List.set_cons_succ]
            refine wpAnyH_take (i := 1) (oi := ⟨some 81, _, _, _, _, _⟩) (v := ?_) rfl (by kernel_rfl) (by kernel_rfl) (by kernel_rfl) (fun _ _ _ h => h) (Or.inl ⟨by rfl, ?_⟩) (by assumption) ?_
            rotate_left
            · intro w hSw
              try dsimp only at hSw
              go_simp
              try with_reducible rfl
            simp only [Act.put, List.setIfInBounds_toArray, List.set_cons_zero, List.set_cons_succ]
            refine wpAnyH_take (i := 2) (oi := ⟨some 82, _, _, _, _, _⟩) (v := ?_) rfl (by kernel_rfl) (by kernel_rfl) (by kernel_rfl) (fun _ _ _ h => h) (Or.inl ⟨by rfl, ?_⟩) (by assumption) ?_
            rotate_left
            · intro w hSw
              try dsimp only at hSw
              go_simp
              try with_reducible rfl
            simp only [Act.put, List.setIfInBounds_toArray, List.set_cons_zero, List.set_cons_succ]
            refine wpAnyH_ready (rs := [3]) (by kernel_rfl) (by simp) ?_
            refine AllReadyH.cons rfl (fun K hK => ?_) AllReadyH.nil
            go_simp
            have zb := (alloc_below w1 (.cells #[.int .i64 (-1), .int .i64 0, .int .i64 1000000, .int .i64 1000001] 3)).drew
            have zl : w1.heap.size < (w1.alloc (.cells #[.int .i64 (-1), .int .i64 0, .int .i64 1000000, .int .i64 1000001] 3)).drew.heap.size := alloc_lt w1 (.cells #[.int .i64 (-1), .int .i64 0, .int .i64 1000000, .int .i64 1000001] 3)
            have zc : ∀ j, j < 4 → ∃ z, (fun _ : Int => True) z ∧ (w1.alloc (.cells #[.int .i64 (-1), .int .i64 0, .int .i64 1000000, .int .i64 1000001] 3)).drew.cell? ⟨w1.heap.size, j, none⟩ = some (.int .i64 z) := cells4 w1 3 (-1) 0 1000000 1000001
            have HD2 := hidP (HD1.out.below zb)
            have hne : w1.heap.size ≠ c := by have := HD1.out.cur.lt; omega
            generalize (w1.alloc (.cells #[.int .i64 (-1), .int .i64 0, .int .i64 1000000, .int .i64 1000001] 3)).drew = w2 at *
            refine hK.out _ _ ?_ (fun hHeld => ?_)
            · try dsimp only
              exact HD2.out.d0
            clear hK K
            refine wpAnyH_ready (rs := [4]) (by kernel_rfl) (by simp) ?_
            refine AllReadyH.cons rfl (fun K hK => ?_) AllReadyH.nil
            go_simp
            go_wp2_with (first | (go_at_call 24; refine (l1Int_any (fun _ => True) c a len cap w1.heap.size 4 _ HD2.out.cur (by omega) (by omega) zl hne zc).mono ?_; rintro e w3 ⟨⟨z, _, rfl⟩, hC3, hK3⟩))
            have HD3 := hidP (HD2.out.keep hC3 hK3)
            clear hC3 hK3
            refine hK.out _ _ ?_ (fun hHeld => ?_)
            · try dsimp only
              exact HD3.out.d0
            clear hK K
            refine wpAnyH_take (i := 5) (oi := ⟨some 85, _, _, _, _, _⟩) (v := ?_) rfl (by kernel_rfl) (by kernel_rfl) (by kernel_rfl) (fun _ _ _ h => h) (Or.inl ⟨by rfl, ?_⟩) (by assumption) ?_
            rotate_left
            · intro w hSw
              try dsimp only at hSw
              go_simp
              try with_reducible rfl
            simp only [Act.put, List.setIfInBounds_toArray, List.set_cons_zero, List.set_cons_succ]
            refine wpAnyH_take (i := 6) (oi := ⟨some 86, _, _, _, _, _⟩) (v := ?_) rfl (by kernel_rfl) (by kernel_rfl) (by kernel_rfl) (fun _ _ _ h => h) (Or.inl ⟨by rfl, ?_⟩) (by assumption) ?_
            rotate_left
            · intro w hSw
              try dsimp only at hSw
              go_simp
              try with_reducible rfl
            simp only [Act.put, List.setIfInBounds_toArray, List.set_cons_zero, List.set_cons_succ]
            refine wpAnyH_ready (rs := [7]) (by kernel_rfl) (by simp) ?_
            refine AllReadyH.cons rfl (fun K hK => ?_) AllReadyH.nil
            obtain ⟨q, hgl, hq, c0, c1, c2, c3⟩ := rowSs0 HD3.out.own 0 (by rw [← HN.out.1]; exact hn0)
            obtain ⟨f0, f1, f2, f3⟩ := frzSs HD3.out.own 0
            have HD4 := hidP (HD3.out.putL q z hq)
            simp only [Nat.zero_mul, Nat.zero_add] at c0 c1 c2 c3 f0 f1 f2 f3
            go_simp
            clear c0 c1 c2 c3 f0 f1 f2 f3
            refine hK.out _ _ ?_ (fun hHeld => ?_)
            · try dsimp only
              exact HD4.out.d0
            clear hK K
            refine wpAnyH_done (by kernel_rfl) ?_ _
            clear hHeld
            have p0' := HD4.out.d0
            have p1 := HD4.out.d1
            have q0 := HD4.out.r0
            have q1 := HD4.out.r1
            have qF := HD4.out.rF
            have HL : Hid (n = (ls.set 0 ⟨q.i, z, q.t, q.u⟩).length) := hidP (by rw [List.length_set]; exact HN.out.1)
            generalize w3.setCell ⟨g, 1, none⟩ (.int .i64 z) = w5 at *
            clear p0 HD3 HD2 HD1 zb zl zc hq
            go_wp2_with fail
            refine bodyPost_ret (v := .agg #[.slice (some ⟨g, 0, none⟩) n d, .int .i64 N]) (by simp [results, Try.results18, go_sem, q0, q1]) rfl ⟨some ⟨g, 0, none⟩, n, d, N, _, rfl, HL.out, h12, (HD4.out.fin _ _).2.2, (HD4.out.fin _ _).1, (HD4.out.fin _ _).2.1⟩
          · have gn : decide ((0 : Int) < (n : Int)) = false := decide_eq_false (by omega)
            have p0 := HD1.out.d0
            have p1 := HD1.out.d1
            have q0 := HD1.out.r0
            have q1 := HD1.out.r1
            have qF := HD1.out.rF
            go_wp2_with fail
            refine bodyPost_ret (v := .agg #[.slice b n d, .int .i64 N]) (by simp [results, Try.results18, go_sem, q0, q1]) rfl ⟨b, n, d, N, ls, rfl, HN.out.1, h12, (HD1.out.fin _ _).2.2, (HD1.out.fin _ _).1, (HD1.out.fin _ _).2.1⟩
      · go_wp2_with fail
        have zb := alloc_below w1 (.cells #[.int .i64 0, .int .i64 1, .int .i64 2, .int .i64 1000000, .int .i64 1000001] 3)
        have zl := alloc_lt w1 (.cells #[.int .i64 0, .int .i64 1, .int .i64 2, .int .i64 1000000, .int .i64 1000001] 3)
        have zc := cells5 w1 3 0 1 2 1000000 1000001
        have HD2 := hidP (HD1.out.below zb)
        have hne : w1.heap.size ≠ c := by have := HD1.out.cur.lt; omega
        generalize w1.alloc (.cells #[.int .i64 0, .int .i64 1, .int .i64 2, .int .i64 1000000, .int .i64 1000001] 3) = w2 at *
        refine (l1Int_any (fun _ => True) c a len cap w1.heap.size 5 _ HD2.out.cur (by omega) (by omega) zl hne zc).mono ?_
        rintro e w3 ⟨⟨z, _, rfl⟩, hC3, hK3⟩
        have HD3 := hidP (HD2.out.keep hC3 hK3)
        clear hC3 hK3 zb zl zc
        have p0 := HD3.out.d0
        have p1 := HD3.out.d1
        have pF := HD3.out.dF
        have q0 := HD3.out.r0
        have q1 := HD3.out.r1
        have qF := HD3.out.rF
        go_wp2_with fail
        refine bodyPost_ret (v := .agg #[.slice b n d, .int .i64 z]) (by simp [results, Try.results18, go_sem, q0, q1]) rfl ⟨b, n, d, z, ls, rfl, HN.out.1, h12, ((HD3.out.putN z).fin _ _).2.2, ((HD3.out.putN z).fin _ _).1, ((HD3.out.putN z).fin _ _).2.1⟩

end Go.Proofs.Ytjenbmiiikeenaa
