/-
  The specification's l2Left: the parts that are left, in a row of the call's own; nothing old in memory turns.
-/
import Derived.Test.YtdbcdichmmcnbaaGreatZK25
import Derived.Test.YtdbcdichmmcnbaaGreatZK10
import Derived.Deep.RegionHeld3
namespace Go.Proofs.YtdbcdichmmcnbaaGreat
open Go.RowKit

def SLeft (k : Nat) : Prop := ∀ (x : Sp) (_ : x.ok) (_ : x.n = k) (xs : List Sp) (_ : ∀ t ∈ xs, t.ok) (_ : xs.length ≤ 300) (a : Option Addr) (cap : Nat) (w : World) (_ : Row w a (xs.map Sp.pre)),
  Calls Tryz.prog 96 #[.agg #[.bool x.s, .int .i64 x.H.toInt, .int .i64 x.L.toInt, .int .i64 ((wd x.s : Int) - (k : Int))], .slice a xs.length cap] w fun e w' => ∃ a' c', e = .returned (.slice a' (leftM k x xs).length c') ∧ OwnR 31 w' w.heap.size (.slice a' (leftM k x xs).length c') ((leftM k x xs).map Sp.pre) ∧ Below w.heap.size w w'

theorem heap_size_alloc' (w : World) (o : Obj) : (w.alloc o).heap.size = w.heap.size + 1 := by simp
theorem left_in {k : Nat} {x : Sp} {xs : List Sp} (h : xs.any (wB x) = true) : leftM k x xs = [] := by
  cases k <;> (unfold leftM; rw [if_pos h])
theorem left_all {k : Nat} {x : Sp} {xs : List Sp} (h : xs.any (wB x) = false) (h2 : xs.filter (fun t => wB t x) = []) : leftM k x xs = [x] := by
  cases k
  · unfold leftM; rw [if_neg (by rw [h]; simp)]
  · unfold leftM; rw [if_neg (by rw [h]; simp), if_pos h2]
theorem left_two {k : Nat} {x : Sp} {xs : List Sp} (h : xs.any (wB x) = false) (h2 : xs.filter (fun t => wB t x) ≠ []) : leftM (k + 1) x xs = leftM k (lowS x k) (xs.filter fun t => wB t x) ++ leftM k (uppS x k) (xs.filter fun t => wB t x) := by
  conv => lhs; unfold leftM
  rw [if_neg (by rw [h]; simp), if_neg h2]

theorem box_cells (w : World) (t : TypeId) (q : Pf) : (w.alloc (.cells #[.bool q.s, .int .i64 q.H.toInt, .int .i64 q.L.toInt, .int .i64 q.b] t)).cell? ⟨w.heap.size, 0, none⟩ = some (.bool q.s) ∧ (w.alloc (.cells #[.bool q.s, .int .i64 q.H.toInt, .int .i64 q.L.toInt, .int .i64 q.b] t)).cell? ⟨w.heap.size, 1, none⟩ = some (.int .i64 q.H.toInt) ∧ (w.alloc (.cells #[.bool q.s, .int .i64 q.H.toInt, .int .i64 q.L.toInt, .int .i64 q.b] t)).cell? ⟨w.heap.size, 2, none⟩ = some (.int .i64 q.L.toInt) ∧ (w.alloc (.cells #[.bool q.s, .int .i64 q.H.toInt, .int .i64 q.L.toInt, .int .i64 q.b] t)).cell? ⟨w.heap.size, 3, none⟩ = some (.int .i64 q.b) := by
  have h := own_one w 0 t q (Nat.zero_le _)
  exact ⟨World.ownsRow.cellAt h 0 (by show 0 < 1 * 4; omega), World.ownsRow.cellAt h 1 (by show 1 < 1 * 4; omega), World.ownsRow.cellAt h 2 (by show 2 < 1 * 4; omega), World.ownsRow.cellAt h 3 (by show 3 < 1 * 4; omega)⟩

theorem near_snoc (x t : Sp) (xs : List Sp) (i : Nat) (h : xs[i]? = some t) : (xs.take (i + 1)).filter (fun t => wB t x) = (xs.take i).filter (fun t => wB t x) ++ (if wB t x = true then [t] else []) := by
  rw [List.take_add_one, h, List.filter_append]
  congr 1
  cases hw : wB t x <;> simp [hw]
theorem any_snoc (x t : Sp) (xs : List Sp) (i : Nat) (h : xs[i]? = some t) (h0 : (xs.take i).any (wB x) = false) (h1 : wB x t = false) : (xs.take (i + 1)).any (wB x) = false := by
  rw [List.take_add_one, h, List.any_append, h0]
  simp [h1]

/-- Two boxes of four cells that stand while the world grows. -/
theorem keep8 {W w' : World} {g h : Nat} {p q : Pf} (hg : g < W.heap.size) (hh : h < W.heap.size) (c : W.cell? ⟨g, 0, none⟩ = some (.bool p.s) ∧ W.cell? ⟨g, 1, none⟩ = some (.int .i64 p.H.toInt) ∧ W.cell? ⟨g, 2, none⟩ = some (.int .i64 p.L.toInt) ∧ W.cell? ⟨g, 3, none⟩ = some (.int .i64 p.b) ∧ W.cell? ⟨h, 0, none⟩ = some (.bool q.s) ∧ W.cell? ⟨h, 1, none⟩ = some (.int .i64 q.H.toInt) ∧ W.cell? ⟨h, 2, none⟩ = some (.int .i64 q.L.toInt) ∧ W.cell? ⟨h, 3, none⟩ = some (.int .i64 q.b) ∧ Below W.heap.size W W) (b : Below W.heap.size W w') : w'.cell? ⟨g, 0, none⟩ = some (.bool p.s) ∧ w'.cell? ⟨g, 1, none⟩ = some (.int .i64 p.H.toInt) ∧ w'.cell? ⟨g, 2, none⟩ = some (.int .i64 p.L.toInt) ∧ w'.cell? ⟨g, 3, none⟩ = some (.int .i64 p.b) ∧ w'.cell? ⟨h, 0, none⟩ = some (.bool q.s) ∧ w'.cell? ⟨h, 1, none⟩ = some (.int .i64 q.H.toInt) ∧ w'.cell? ⟨h, 2, none⟩ = some (.int .i64 q.L.toInt) ∧ w'.cell? ⟨h, 3, none⟩ = some (.int .i64 q.b) ∧ Below W.heap.size W w' :=
  ⟨(b.cell hg).trans c.1, (b.cell hg).trans c.2.1, (b.cell hg).trans c.2.2.1, (b.cell hg).trans c.2.2.2.1, (b.cell hh).trans c.2.2.2.2.1, (b.cell hh).trans c.2.2.2.2.2.1, (b.cell hh).trans c.2.2.2.2.2.2.1, (b.cell hh).trans c.2.2.2.2.2.2.2.1, b⟩
theorem last8 {W : World} {A B C D E F G H : Prop} {w' : World} (c : A ∧ B ∧ C ∧ D ∧ E ∧ F ∧ G ∧ H ∧ Below W.heap.size W w') : Below W.heap.size W w' := c.2.2.2.2.2.2.2.2

set_option maxRecDepth 10000 in
set_option maxHeartbeats 2000000 in
theorem l2Left_step (k : Nat) (IH : ∀ j, j < k → SLeft j) : SLeft k := by
  intro x hx hk xs hxs hl a cap w hR
  have HB := hidP hR
  have HX := hidP hx
  have HXs := hidP hxs
  have HI := hidP IH
  have hk9 : k ≤ 128 := by have := hx.le; omega
  have HK := hidP hk
  obtain ⟨n, hn⟩ : ∃ n, n = xs.length := ⟨_, rfl⟩
  rw [← hn] at hl ⊢
  have HN := hidP hn
  clear hR hx hxs IH hk hn
  go_enter Tryz.func96, Tryz.ntmps96
  go_wp2_with fail
  obtain ⟨b0, b1, b2, b3⟩ := box_cells w 31 ⟨x.s, x.H, x.L, (wd x.s : Int) - (k : Int)⟩
  have hBW : Below w.heap.size w (w.alloc (.cells #[.bool x.s, .int .i64 x.H.toInt, .int .i64 x.L.toInt, .int .i64 ((wd x.s : Int) - (k : Int))] 31)) := (Below.refl _ w).alloc (Nat.le_refl _) _
  have hs1 : (w.alloc (.cells #[.bool x.s, .int .i64 x.H.toInt, .int .i64 x.L.toInt, .int .i64 ((wd x.s : Int) - (k : Int))] 31)).heap.size = w.heap.size + 1 := by simp
  have hE : ∀ W1 : World, W1 = (w.alloc (.cells #[.bool x.s, .int .i64 x.H.toInt, .int .i64 x.L.toInt, .int .i64 ((wd x.s : Int) - (k : Int))] 31)) → W1 = W1 := fun _ _ => rfl
  generalize (w.alloc (.cells #[.bool x.s, .int .i64 x.H.toInt, .int .i64 x.L.toInt, .int .i64 ((wd x.s : Int) - (k : Int))] 31)) = W1 at *
  clear hE
  have HO : Hid (OwnR 31 (W1.alloc (.cells #[] 31)) (w.heap.size + 1) (.slice (some ⟨w.heap.size + 1, 0, none⟩) 0 0) []) := by
    refine hidP ?_
    have h := own_zero W1 (w.heap.size + 1) 31 (by omega)
    rw [hs1] at h; exact h
  have HBW := hidP hBW
  have HB0 := hidP (And.intro b0 (And.intro b1 (And.intro b2 b3)))
  have HS1 := hidP hs1
  clear b0 b1 b2 b3 hBW hs1
  go_loopw [5, 6] (fun t5 t6 wr => ∃ (i : Nat) (a5 : Option Addr) (m5 c5 : Nat), i ≤ n ∧ t6 = .int .i64 i ∧ t5 = .slice a5 m5 c5 ∧ m5 = ((xs.take i).filter (fun t => wB t x)).length ∧ OwnR 31 wr (w.heap.size + 1) (.slice a5 m5 c5) (((xs.take i).filter (fun t => wB t x)).map Sp.pre) ∧ (xs.take i).any (wB x) = false ∧ Below (w.heap.size + 1) W1 wr) (fun _ t6 _ => n - (intOf t6).toNat)
  case atStart => exact ⟨0, _, 0, 0, Nat.zero_le _, rfl, rfl, by simp, by simpa using HO.out, by simp, (Below.refl _ W1).alloc (by rw [HS1.out]; exact Nat.le_refl _) _⟩
  case round =>
    obtain ⟨i, a5, m5, c5, hi, rfl, rfl, hm5, hown, hany, hbel⟩ := hrel
    have hb' := HB0.out
    have c0 := (hbel.cell (Nat.lt_succ_self w.heap.size)).trans hb'.1
    have c1 := (hbel.cell (Nat.lt_succ_self w.heap.size)).trans hb'.2.1
    have c2 := (hbel.cell (Nat.lt_succ_self w.heap.size)).trans hb'.2.2.1
    have c3 := (hbel.cell (Nat.lt_succ_self w.heap.size)).trans hb'.2.2.2
    clear hb'
    have hzr : w.heap.size + 1 ≤ wr.heap.size := by have := hbel.size; rw [HS1.out] at this; exact this
    have HOw := hidP hown
    have HAny := hidP hany
    have HBel := hidP hbel
    have HM5 := hidP hm5
    have hm9 : m5 ≤ 300 := by rw [hm5]; exact Nat.le_trans (List.length_filter_le _ _) (by rw [List.length_take]; omega)
    clear hown hany hm5 HO
    by_cases hlt : i < n
    · obtain ⟨p, o, t, rfl, hp, hq, e0, e1, e2, e3⟩ := HB.out.pre i (by rw [← HN.out]; exact hlt)
      have hpw : p < W1.heap.size := by rw [HS1.out]; omega
      have hpr : p < w.heap.size + 1 := by omega
      have d0 := (hbel.cell hpr).trans ((HBW.out.cell hp).trans e0)
      have d1 := (hbel.cell hpr).trans ((HBW.out.cell hp).trans e1)
      have d2 := (hbel.cell hpr).trans ((HBW.out.cell hp).trans e2)
      have d3 := (hbel.cell hpr).trans ((HBW.out.cell hp).trans e3)
      have HQ := hidP hq
      have ht : t.ok := HXs.out t (List.mem_of_getElem? hq)
      have hw1 : ∀ wx, Calls Tryz.prog 97 #[.agg #[.bool x.s, .int .i64 x.H.toInt, .int .i64 x.L.toInt, .int .i64 ((wd x.s : Int) - (k : Int))], .agg #[.bool t.s, .int .i64 t.H.toInt, .int .i64 t.L.toInt, .int .i64 ((wd t.s : Int) - (t.n : Int))]] wx fun e w' => e = .returned (.bool (wB x t)) ∧ Below wx.heap.size wx w' := fun wx => by
        have h := sWithin_any x.s x.H x.L ((wd x.s : Int) - (x.n : Int)) t.s t.H t.L ((wd t.s : Int) - (t.n : Int)) wx
        rw [win_wB HX.out ht, HK.out] at h; exact h
      have hw2 : ∀ wx, Calls Tryz.prog 97 #[.agg #[.bool t.s, .int .i64 t.H.toInt, .int .i64 t.L.toInt, .int .i64 ((wd t.s : Int) - (t.n : Int))], .agg #[.bool x.s, .int .i64 x.H.toInt, .int .i64 x.L.toInt, .int .i64 ((wd x.s : Int) - (k : Int))]] wx fun e w' => e = .returned (.bool (wB t x)) ∧ Below wx.heap.size wx w' := fun wx => by
        have h := sWithin_any t.s t.H t.L ((wd t.s : Int) - (t.n : Int)) x.s x.H x.L ((wd x.s : Int) - (x.n : Int)) wx
        rw [win_wB ht HX.out, HK.out] at h; exact h
      have HT := hidP ht
      have HW1 := hidP hw1
      have HW2 := hidP hw2
      clear e0 e1 e2 e3 hq ht hw1 hw2 hbel
      cases hxt : wB x t
      · rw [hxt] at HW1
        go_wp2_with fail
        go_region_with (first | (go_at_call 97; refine (HW1.out _).mono ?_; rintro e w2 ⟨rfl, hb2⟩))
        all_goals
          have hr2 : Below wr.heap.size wr w2 := (Below.refl _ wr).drew.trans (hb2.mono (by simp))
          have HB2 := hidP (HBel.out.trans (hr2.mono hzr))
          have HO2 := hidP (HOw.out.later hr2)
          have hz2 : w.heap.size + 1 ≤ w2.heap.size := Nat.le_trans hzr hr2.size
          have c0' := (hr2.cell (show w.heap.size < wr.heap.size by omega)).trans c0
          have c1' := (hr2.cell (show w.heap.size < wr.heap.size by omega)).trans c1
          have c2' := (hr2.cell (show w.heap.size < wr.heap.size by omega)).trans c2
          have c3' := (hr2.cell (show w.heap.size < wr.heap.size by omega)).trans c3
          have d0' := (hr2.cell (show p < wr.heap.size by omega)).trans d0
          have d1' := (hr2.cell (show p < wr.heap.size by omega)).trans d1
          have d2' := (hr2.cell (show p < wr.heap.size by omega)).trans d2
          have d3' := (hr2.cell (show p < wr.heap.size by omega)).trans d3
          clear hb2 hr2 c0 c1 c2 c3 d0 d1 d2 d3
          have HAny2 := hidP (any_snoc x t xs i HQ.out HAny.out hxt)
          cases htx : wB t x
          · rw [htx] at HW2
            have HNe := hidP (near_snoc x t xs i HQ.out)
            rw [htx, if_neg (by simp), List.append_nil] at HNe
            go_wp2_with fail
            go_region_with (first | (go_at_call 97; refine (HW2.out _).mono ?_; rintro e w3 ⟨rfl, hb3⟩))
            all_goals
              have hr3 : Below w2.heap.size w2 w3 := (Below.refl _ w2).drew.trans (hb3.mono (by simp))
              have HB3 := hidP (HB2.out.trans (hr3.mono hz2))
              have HO3 := hidP (HO2.out.later hr3)
              clear hb3 hr3
              go_wp2_with fail
              go_roundw
              case rel => exact ⟨i + 1, a5, m5, c5, by omega, by go_num, rfl, by rw [HNe.out]; exact HM5.out, by rw [HNe.out]; exact HO3.out, HAny2.out, HB3.out⟩
              case measure => simp [intOf]; omega
          · rw [htx] at HW2
            have HNe := hidP (near_snoc x t xs i HQ.out)
            rw [htx, if_pos rfl] at HNe
            go_wp2_with fail
            go_region_with (first | (go_at_call 97; refine (HW2.out _).mono ?_; rintro e w3 ⟨rfl, hb3⟩))
            all_goals
              have hr3 : Below w2.heap.size w2 w3 := (Below.refl _ w2).drew.trans (hb3.mono (by simp))
              have HB3 := hidP (HB2.out.trans (hr3.mono hz2))
              have HO3 := hidP (HO2.out.later hr3)
              have hz3 : w.heap.size + 1 ≤ w3.heap.size := Nat.le_trans hz2 hr3.size
              have d0 := (hr3.cell (show p < w2.heap.size by omega)).trans d0'
              have d1 := (hr3.cell (show p < w2.heap.size by omega)).trans d1'
              have d2 := (hr3.cell (show p < w2.heap.size by omega)).trans d2'
              have d3 := (hr3.cell (show p < w2.heap.size by omega)).trans d3'
              clear hb3 hr3 d0' d1' d2' d3' c0' c1' c2' c3'
              go_wp2_with (at_builtin; refine wpList_appR Tryz.fourP _ rfl (.tmp 29) (.tmp 34) 78 rfl (w.heap.size + 1) a5 m5 c5 1 (((xs.take i).filter (fun t => wB t x)).map Sp.pre) [t.pre] (.slice (some ⟨w3.heap.size, 0, none⟩) 1 1) rfl (by rw [List.length_map]; exact HM5.out) rfl (HO3.out.alloc _) rfl (src_row Tryz.fourP 1 1 rfl (row_one w3 31 t.pre) (by simp)) (by omega) (by simp; omega) ?_; intro a6 c6 w4 ho4 hg4 ht4)
              go_roundw
              case rel => exact ⟨i + 1, a6, m5 + 1, c6, by omega, by go_num, rfl, by rw [HNe.out, List.length_append, ← HM5.out]; rfl, by rw [HNe.out, List.map_append]; exact ho4, HAny2.out, below_appR (HB3.out.alloc hz3 _) (HO3.out.alloc _) (by simp; omega) hg4⟩
              case measure => simp [intOf]; omega
      · rw [hxt] at HW1
        have HE : Hid (leftM k x xs = []) := by
          refine hidP (left_in ?_)
          rw [List.any_eq_true]
          exact ⟨t, List.mem_of_getElem? HQ.out, hxt⟩
        go_wp2_with fail
        go_region_with (first | (go_at_call 97; refine (HW1.out _).mono ?_; rintro e w2 ⟨rfl, hb2⟩))
        all_goals
          have hr2 : Below wr.heap.size wr w2 := (Below.refl _ wr).drew.trans (hb2.mono (by simp))
          have HB2 := hidP (HBW.out.trans ((HBel.out.trans (hr2.mono hzr)).mono (by omega)))
          have hz2 : w.heap.size ≤ w2.heap.size := by have := hr2.size; omega
          clear hb2 hr2
          go_wp2_with fail
          go_ret
          rw [HE.out]
          exact ⟨_, _, rfl, own_zero w2 w.heap.size 31 hz2, HB2.out.alloc hz2 _⟩
    · have hin : i = n := by omega
      subst hin
      clear hbel
      have eT : xs.take i = xs := by rw [HN.out, List.take_length]
      rw [eT] at HM5 HOw HAny
      clear eT
      have HBr := hidP (HBW.out.trans (HBel.out.mono (by omega)))
      by_cases hm0 : m5 = 0
      · have HE : Hid (leftM k x xs = [x]) := hidP (left_all HAny.out (List.eq_nil_of_length_eq_zero (by rw [← HM5.out]; exact hm0)))
        subst hm0
        go_wp2_with fail
        go_ret
        rw [HE.out]
        have h1 := own_one wr w.heap.size 31 x.pre (by omega)
        unfold Sp.pre at h1
        rw [HK.out] at h1
        refine ⟨_, _, rfl, ?_, HBr.out.alloc (by omega) _⟩
        show OwnR _ _ _ _ [x.pre]
        unfold Sp.pre
        rw [HK.out]
        exact h1
      · have hne : xs.filter (fun t => wB t x) ≠ [] := fun h => hm0 (by rw [HM5.out, h]; rfl)
        obtain ⟨k', rfl⟩ : ∃ k', k = k' + 1 := by
          cases k with
          | zero => exact absurd (near_zero HK.out hne) (by rw [HAny.out]; simp)
          | succ k' => exact ⟨k', rfl⟩
        have HE := hidP (left_two (k := k') HAny.out hne)
        have hx := HX.out
        have hxn := HK.out
        have hlow := low_ok hx hxn
        have hupp := upp_ok hx hxn
        have hwd : x.n ≤ wd x.s := hx.2.1
        have hh : ∀ wx, Calls Tryz.prog 127 #[.agg #[.bool x.s, .int .i64 x.H.toInt, .int .i64 x.L.toInt, .int .i64 ((wd x.s : Int) - ((k' + 1 : Nat) : Int))]] wx fun e w' => e = .returned (.tuple #[.agg #[.bool x.s, .int .i64 x.H.toInt, .int .i64 x.L.toInt, .int .i64 ((wd x.s : Int) - (k' : Int))], .agg #[.bool x.s, .int .i64 (cH k' (fH (k' + 1) x.H)).toInt, .int .i64 (cL k' (fL (k' + 1) x.L)).toInt, .int .i64 ((wd x.s : Int) - (k' : Int))]]) ∧ Below wx.heap.size wx w' := fun wx => by
          have h := l2Halves_any x.s x.H x.L ((wd x.s : Int) - ((k' + 1 : Nat) : Int)) k' (by omega) hx.1 (by omega) wx
          rw [show (wd x.s : Int) - ((k' + 1 : Nat) : Int) + 1 = (wd x.s : Int) - (k' : Int) by omega] at h
          exact h
        have HH := hidP hh
        have hxs2 : ∀ t ∈ xs.filter (fun t => wB t x), t.ok := fun t ht => HXs.out t (List.mem_filter.1 ht).1
        have IHl := fun a cap w hR => HI.out k' (Nat.lt_succ_self k') (lowS x k') hlow rfl (xs.filter fun t => wB t x) hxs2 (by rw [← HM5.out]; omega) a cap w hR
        have IHu := fun a cap w hR => HI.out k' (Nat.lt_succ_self k') (uppS x k') hupp rfl (xs.filter fun t => wB t x) hxs2 (by rw [← HM5.out]; omega) a cap w hR
        have hb1 := left_le hlow (xs.filter fun t => wB t x) (by rw [← HM5.out]; omega)
        have hb2 := left_le hupp (xs.filter fun t => wB t x) (by rw [← HM5.out]; omega)
        rw [← HM5.out] at IHl IHu
        obtain ⟨l1, hl1⟩ : ∃ l1, l1 = leftM k' (lowS x k') (xs.filter fun t => wB t x) := ⟨_, rfl⟩
        obtain ⟨l2, hl2⟩ : ∃ l2, l2 = leftM k' (uppS x k') (xs.filter fun t => wB t x) := ⟨_, rfl⟩
        change (leftM k' (lowS x k') (xs.filter fun t => wB t x)).length ≤ 38401 at hb1
        change (leftM k' (uppS x k') (xs.filter fun t => wB t x)).length ≤ 38401 at hb2
        rw [← hl1] at hb1 IHl HE
        rw [← hl2] at hb2 IHu HE
        obtain ⟨H2, hH2⟩ : ∃ H2, H2 = cH k' (fH (k' + 1) x.H) := ⟨_, rfl⟩
        obtain ⟨L2, hL2⟩ : ∃ L2, L2 = cL k' (fL (k' + 1) x.L) := ⟨_, rfl⟩
        rw [← hH2, ← hL2] at HH
        have HIl : Hid (∀ (a : Option Addr) (cap : Nat) (w : World), Row w a ((xs.filter fun t => wB t x).map Sp.pre) → Calls Tryz.prog 96 #[.agg #[.bool x.s, .int .i64 x.H.toInt, .int .i64 x.L.toInt, .int .i64 ((wd x.s : Int) - (k' : Int))], .slice a m5 cap] w fun e w' => ∃ a' c', e = .returned (.slice a' l1.length c') ∧ OwnR 31 w' w.heap.size (.slice a' l1.length c') (l1.map Sp.pre) ∧ Below w.heap.size w w') := hidP IHl
        have HIu : Hid (∀ (a : Option Addr) (cap : Nat) (w : World), Row w a ((xs.filter fun t => wB t x).map Sp.pre) → Calls Tryz.prog 96 #[.agg #[.bool x.s, .int .i64 H2.toInt, .int .i64 L2.toInt, .int .i64 ((wd x.s : Int) - (k' : Int))], .slice a m5 cap] w fun e w' => ∃ a' c', e = .returned (.slice a' l2.length c') ∧ OwnR 31 w' w.heap.size (.slice a' l2.length c') (l2.map Sp.pre) ∧ Below w.heap.size w w') := by
          rw [hH2, hL2]; exact hidP IHu
        have hm1 : (((m5 : Nat) : Int) == 0) = false := by rw [beq_eq_false_iff_ne]; omega
        clear hne hx hxn hlow hupp hwd hh hxs2 IHl IHu hl1 hl2 hm0 hH2 hL2
        go_wp2_with fail
        refine (HH.out _).mono ?_
        rintro e w2 ⟨rfl, hb2'⟩
        have hz2 := hb2'.size
        have HRw := hidP ((HOw.out.row).later hb2')
        have HB2 := hidP (HBr.out.trans (hb2'.mono (by omega)))
        clear hb2' HOw HBr c0 c1 c2 c3
        go_wp2_with fail
        obtain ⟨p0, p1, p2, p3⟩ := box_cells w2 31 ⟨x.s, x.H, x.L, (wd x.s : Int) - (k' : Int)⟩
        obtain ⟨q0, q1, q2, q3⟩ := box_cells (w2.alloc (.cells #[.bool x.s, .int .i64 x.H.toInt, .int .i64 x.L.toInt, .int .i64 ((wd x.s : Int) - (k' : Int))] 31)) 31 ⟨x.s, H2, L2, (wd x.s : Int) - (k' : Int)⟩
        have hbb : Below w2.heap.size w2 ((w2.alloc (.cells #[.bool x.s, .int .i64 x.H.toInt, .int .i64 x.L.toInt, .int .i64 ((wd x.s : Int) - (k' : Int))] 31)).alloc (.cells #[.bool x.s, .int .i64 H2.toInt, .int .i64 L2.toInt, .int .i64 ((wd x.s : Int) - (k' : Int))] 31)) := ((Below.refl _ w2).alloc (Nat.le_refl _) _).alloc (by simp) _
        have hb1' : Below (w2.heap.size + 1) (w2.alloc (.cells #[.bool x.s, .int .i64 x.H.toInt, .int .i64 x.L.toInt, .int .i64 ((wd x.s : Int) - (k' : Int))] 31)) ((w2.alloc (.cells #[.bool x.s, .int .i64 x.H.toInt, .int .i64 x.L.toInt, .int .i64 ((wd x.s : Int) - (k' : Int))] 31)).alloc (.cells #[.bool x.s, .int .i64 H2.toInt, .int .i64 L2.toInt, .int .i64 ((wd x.s : Int) - (k' : Int))] 31)) := (Below.refl _ _).alloc (by simp) _
        have hsz : ((w2.alloc (.cells #[.bool x.s, .int .i64 x.H.toInt, .int .i64 x.L.toInt, .int .i64 ((wd x.s : Int) - (k' : Int))] 31)).alloc (.cells #[.bool x.s, .int .i64 H2.toInt, .int .i64 L2.toInt, .int .i64 ((wd x.s : Int) - (k' : Int))] 31)).heap.size = w2.heap.size + 2 := by simp
        have p0' := (hb1'.cell (Nat.lt_succ_self _)).trans p0
        have p1' := (hb1'.cell (Nat.lt_succ_self _)).trans p1
        have p2' := (hb1'.cell (Nat.lt_succ_self _)).trans p2
        have p3' := (hb1'.cell (Nat.lt_succ_self _)).trans p3
        simp only [heap_size_alloc'] at q0 q1 q2 q3
        generalize ((w2.alloc (.cells #[.bool x.s, .int .i64 x.H.toInt, .int .i64 x.L.toInt, .int .i64 ((wd x.s : Int) - (k' : Int))] 31)).alloc (.cells #[.bool x.s, .int .i64 H2.toInt, .int .i64 L2.toInt, .int .i64 ((wd x.s : Int) - (k' : Int))] 31)) = W at *
        have hc8 : W.cell? ⟨w2.heap.size, 0, none⟩ = some (.bool x.s) ∧ W.cell? ⟨w2.heap.size, 1, none⟩ = some (.int .i64 x.H.toInt) ∧ W.cell? ⟨w2.heap.size, 2, none⟩ = some (.int .i64 x.L.toInt) ∧ W.cell? ⟨w2.heap.size, 3, none⟩ = some (.int .i64 ((wd x.s : Int) - (k' : Int))) ∧ W.cell? ⟨w2.heap.size + 1, 0, none⟩ = some (.bool x.s) ∧ W.cell? ⟨w2.heap.size + 1, 1, none⟩ = some (.int .i64 H2.toInt) ∧ W.cell? ⟨w2.heap.size + 1, 2, none⟩ = some (.int .i64 L2.toInt) ∧ W.cell? ⟨w2.heap.size + 1, 3, none⟩ = some (.int .i64 ((wd x.s : Int) - (k' : Int))) ∧ Below W.heap.size W W := ⟨p0', p1', p2', p3', q0, q1, q2, q3, Below.refl _ W⟩
        have HRW := hidP (HRw.out.later hbb)
        have HBW2 := hidP (HB2.out.trans (hbb.mono (by omega)))
        clear p0 p1 p2 p3 q0 q1 q2 q3 hb1' hbb HRw p0' p1' p2' p3'
        have hg1 : w2.heap.size < W.heap.size := by omega
        have hg2 : w2.heap.size + 1 < W.heap.size := by omega
        go_region_held3 (fun w' => w'.cell? ⟨w2.heap.size, 0, none⟩ = some (.bool x.s) ∧ w'.cell? ⟨w2.heap.size, 1, none⟩ = some (.int .i64 x.H.toInt) ∧ w'.cell? ⟨w2.heap.size, 2, none⟩ = some (.int .i64 x.L.toInt) ∧ w'.cell? ⟨w2.heap.size, 3, none⟩ = some (.int .i64 ((wd x.s : Int) - (k' : Int))) ∧ w'.cell? ⟨w2.heap.size + 1, 0, none⟩ = some (.bool x.s) ∧ w'.cell? ⟨w2.heap.size + 1, 1, none⟩ = some (.int .i64 H2.toInt) ∧ w'.cell? ⟨w2.heap.size + 1, 2, none⟩ = some (.int .i64 L2.toInt) ∧ w'.cell? ⟨w2.heap.size + 1, 3, none⟩ = some (.int .i64 ((wd x.s : Int) - (k' : Int))) ∧ Below W.heap.size W w') (first | (with_reducible exact hc8) | (with_reducible exact keep8 (p := ⟨x.s, x.H, x.L, (wd x.s : Int) - (k' : Int)⟩) (q := ⟨x.s, H2, L2, (wd x.s : Int) - (k' : Int)⟩) hg1 hg2 hc8 b5) | (with_reducible exact keep8 (p := ⟨x.s, x.H, x.L, (wd x.s : Int) - (k' : Int)⟩) (q := ⟨x.s, H2, L2, (wd x.s : Int) - (k' : Int)⟩) hg1 hg2 hc8 b4) | (with_reducible exact keep8 (p := ⟨x.s, x.H, x.L, (wd x.s : Int) - (k' : Int)⟩) (q := ⟨x.s, H2, L2, (wd x.s : Int) - (k' : Int)⟩) hg1 hg2 hc8 b3) | (with_reducible exact keep8 (p := ⟨x.s, x.H, x.L, (wd x.s : Int) - (k' : Int)⟩) (q := ⟨x.s, H2, L2, (wd x.s : Int) - (k' : Int)⟩) hg1 hg2 hc8 (Below.refl _ _).drew))
          (first | (go_at_call_of 96 (Value.int IntKind.i64 x.H.toInt); refine (HIl.out a5 c5 _ (HRW.out.later (last8 (by assumption)))).mono ?_; rintro e w3 ⟨a3, c3, rfl, o3, h3⟩; have o3' := o3.mono (last8 (by assumption)).size; have b3 := (last8 (by assumption)).trans (h3.mono (last8 (by assumption)).size)) | (go_at_call_of 96 (Value.int IntKind.i64 H2.toInt); refine (HIu.out a5 c5 _ (HRW.out.later (last8 (by assumption)))).mono ?_; rintro e w4 ⟨a4, c4, rfl, o4, h4⟩; have b4 := (last8 (by assumption)).trans (h4.mono (last8 (by assumption)).size)) | (refine step_appR Tryz.fourP _ rfl (.tmp 48) (.tmp 51) 78 rfl W.heap.size a3 l1.length c3 l2.length (l1.map Sp.pre) (l2.map Sp.pre) (.slice a4 l2.length c4) rfl (by rw [List.length_map]) (by rw [List.length_map]) (o3'.later h4) rfl (src_row Tryz.fourP _ _ (by rw [List.length_map]) o4.row o4.caps.2.2.2) (by omega) b4.size ?_; intro a6 c6 w5 o5 r5 t5; have b5 := below_appR b4 (o3'.later h4) b4.size r5))
        all_goals
          have HF : Hid (OwnR 31 w5 w.heap.size (.slice a6 (l1.length + l2.length) c6) ((l1 ++ l2).map Sp.pre) ∧ Below w.heap.size w w5) := by
            refine hidP ⟨?_, HBW2.out.trans (b5.mono HBW2.out.size)⟩
            rw [List.map_append]
            exact o5.mono HBW2.out.size
          clear o3 o3' h3 b3 o4 h4 b4 o5 r5 t5 b5
          go_wp2_with fail
          go_ret
          rw [HE.out, List.length_append]
          exact ⟨_, _, rfl, HF.out.1, HF.out.2⟩
theorem l2Left_all (k : Nat) : SLeft k := Nat.strongRecOn k fun k ih => l2Left_step k ih

end Go.Proofs.YtdbcdichmmcnbaaGreat
