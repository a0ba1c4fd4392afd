/-
  The specification's l2Left: the parts that are left, in a row of the call's own; nothing old in memory turns.
-/
import Derived.Test.YtgohffeneibhdaaPPre
import Derived.Test.YtgohffeneibhdaaMHas
import Derived.Deep.RegionHeld3
import Derived.RangeFuncNested
import Derived.RangeFuncBound
import Derived.RangeFuncCalls
import Derived.RangeFuncLeaves
import Derived.Shelf.Abstract
import Derived.Shelf.RegionOpen
import Derived.WalkKit
import Derived.OwnWalkIn
import Derived.TacticsInMore
import Derived.LoopNIn
import Derived.LoopIn
import Derived.Test.YtgohffeneibhdaaPSpan
import Derived.Test.YtgohffeneibhdaaBSpC
import Derived.Test.YtgohffeneibhdaaMSH
import Derived.Test.YtgohffeneibhdaaMPok
namespace Go.Proofs.Ytgohffeneibhdaa
open Go.RowKit

def SLeft (k : Nat) : Prop := ∀ (x : Sp) (_ : x.ok) (_ : x.n = k) (xs : List Sp) (_ : ∀ t ∈ xs, t.ok) (_ : xs.length ≤ 300) (a : Option Addr) (cap : Nat) (w : World) (_ : Row w a (xs.map Sp.pre)),
  Calls Try.prog 47 #[.agg #[.bool x.s, .int .i64 x.H.toInt, .int .i64 x.L.toInt, .int .i64 ((wd x.s : Int) - (k : Int))], .slice a xs.length cap] w fun e w' => ∃ a' c', e = .returned (.slice a' (leftM k x xs).length c') ∧ OwnR 31 w' w.heap.size (.slice a' (leftM k x xs).length c') ((leftM k x xs).map Sp.pre) ∧ Below w.heap.size w w'

theorem heap_size_alloc' (w : World) (o : Obj) : (w.alloc o).heap.size = w.heap.size + 1 := by simp
theorem left_in {k : Nat} {x : Sp} {xs : List Sp} (h : xs.any (wB x) = true) : leftM k x xs = [] := by
  cases k <;> (unfold leftM; rw [if_pos h])
theorem left_all {k : Nat} {x : Sp} {xs : List Sp} (h : xs.any (wB x) = false) (h2 : xs.filter (fun t => wB t x) = []) : leftM k x xs = [x] := by
  cases k
  · unfold leftM; rw [if_neg (by rw [h]; simp)]
  · unfold leftM; rw [if_neg (by rw [h]; simp), if_pos h2]
theorem left_two {k : Nat} {x : Sp} {xs : List Sp} (h : xs.any (wB x) = false) (h2 : xs.filter (fun t => wB t x) ≠ []) : leftM (k + 1) x xs = leftM k (lowS x k) (xs.filter fun t => wB t x) ++ leftM k (uppS x k) (xs.filter fun t => wB t x) := by
  conv => lhs; unfold leftM
  rw [if_neg (by rw [h]; simp), if_neg h2]

theorem box_cells (w : World) (t : TypeId) (q : Pf) : (w.alloc (.cells #[.bool q.s, .int .i64 q.H.toInt, .int .i64 q.L.toInt, .int .i64 q.b] t)).cell? ⟨w.heap.size, 0, none⟩ = some (.bool q.s) ∧ (w.alloc (.cells #[.bool q.s, .int .i64 q.H.toInt, .int .i64 q.L.toInt, .int .i64 q.b] t)).cell? ⟨w.heap.size, 1, none⟩ = some (.int .i64 q.H.toInt) ∧ (w.alloc (.cells #[.bool q.s, .int .i64 q.H.toInt, .int .i64 q.L.toInt, .int .i64 q.b] t)).cell? ⟨w.heap.size, 2, none⟩ = some (.int .i64 q.L.toInt) ∧ (w.alloc (.cells #[.bool q.s, .int .i64 q.H.toInt, .int .i64 q.L.toInt, .int .i64 q.b] t)).cell? ⟨w.heap.size, 3, none⟩ = some (.int .i64 q.b) := by
  have h := own_one w 0 t q (Nat.zero_le _)
  exact ⟨World.ownsRow.cellAt h 0 (by show 0 < 1 * 4; omega), World.ownsRow.cellAt h 1 (by show 1 < 1 * 4; omega), World.ownsRow.cellAt h 2 (by show 2 < 1 * 4; omega), World.ownsRow.cellAt h 3 (by show 3 < 1 * 4; omega)⟩

theorem near_snoc (x t : Sp) (xs : List Sp) (i : Nat) (h : xs[i]? = some t) : (xs.take (i + 1)).filter (fun t => wB t x) = (xs.take i).filter (fun t => wB t x) ++ (if wB t x = true then [t] else []) := by
  rw [List.take_add_one, h, List.filter_append]
  congr 1
  cases hw : wB t x <;> simp [hw]
theorem any_snoc (x t : Sp) (xs : List Sp) (i : Nat) (h : xs[i]? = some t) (h0 : (xs.take i).any (wB x) = false) (h1 : wB x t = false) : (xs.take (i + 1)).any (wB x) = false := by
  rw [List.take_add_one, h, List.any_append, h0]
  simp [h1]

/-- Two boxes of four cells that stand while the world grows. -/
theorem keep8 {W w' : World} {g h : Nat} {p q : Pf} (hg : g < W.heap.size) (hh : h < W.heap.size) (c : W.cell? ⟨g, 0, none⟩ = some (.bool p.s) ∧ W.cell? ⟨g, 1, none⟩ = some (.int .i64 p.H.toInt) ∧ W.cell? ⟨g, 2, none⟩ = some (.int .i64 p.L.toInt) ∧ W.cell? ⟨g, 3, none⟩ = some (.int .i64 p.b) ∧ W.cell? ⟨h, 0, none⟩ = some (.bool q.s) ∧ W.cell? ⟨h, 1, none⟩ = some (.int .i64 q.H.toInt) ∧ W.cell? ⟨h, 2, none⟩ = some (.int .i64 q.L.toInt) ∧ W.cell? ⟨h, 3, none⟩ = some (.int .i64 q.b) ∧ Below W.heap.size W W) (b : Below W.heap.size W w') : w'.cell? ⟨g, 0, none⟩ = some (.bool p.s) ∧ w'.cell? ⟨g, 1, none⟩ = some (.int .i64 p.H.toInt) ∧ w'.cell? ⟨g, 2, none⟩ = some (.int .i64 p.L.toInt) ∧ w'.cell? ⟨g, 3, none⟩ = some (.int .i64 p.b) ∧ w'.cell? ⟨h, 0, none⟩ = some (.bool q.s) ∧ w'.cell? ⟨h, 1, none⟩ = some (.int .i64 q.H.toInt) ∧ w'.cell? ⟨h, 2, none⟩ = some (.int .i64 q.L.toInt) ∧ w'.cell? ⟨h, 3, none⟩ = some (.int .i64 q.b) ∧ Below W.heap.size W w' :=
  ⟨(b.cell hg).trans c.1, (b.cell hg).trans c.2.1, (b.cell hg).trans c.2.2.1, (b.cell hg).trans c.2.2.2.1, (b.cell hh).trans c.2.2.2.2.1, (b.cell hh).trans c.2.2.2.2.2.1, (b.cell hh).trans c.2.2.2.2.2.2.1, (b.cell hh).trans c.2.2.2.2.2.2.2.1, b⟩
theorem last8 {W : World} {A B C D E F G H : Prop} {w' : World} (c : A ∧ B ∧ C ∧ D ∧ E ∧ F ∧ G ∧ H ∧ Below W.heap.size W w') : Below W.heap.size W w' := c.2.2.2.2.2.2.2.2

set_option maxRecDepth 10000 in
set_option maxHeartbeats 2000000 in
theorem l2Left_step (k : Nat) (IH : ∀ j, j < k → SLeft j) : SLeft k := by
  intro x hx hk xs hxs hl a cap w hR
  have HB := hidP hR
  have HX := hidP hx
  have HXs := hidP hxs
  have HI := hidP IH
  have hk9 : k ≤ 128 := by have := hx.le; omega
  have HK := hidP hk
  obtain ⟨n, hn⟩ : ∃ n, n = xs.length := ⟨_, rfl⟩
  rw [← hn] at hl ⊢
  have HN := hidP hn
  clear hR hx hxs IH hk hn
  go_enter Try.func47, Try.ntmps47
  go_wp2_with fail
  obtain ⟨b0, b1, b2, b3⟩ := box_cells w 31 ⟨x.s, x.H, x.L, (wd x.s : Int) - (k : Int)⟩
  have hBW : Below w.heap.size w (w.alloc (.cells #[.bool x.s, .int .i64 x.H.toInt, .int .i64 x.L.toInt, .int .i64 ((wd x.s : Int) - (k : Int))] 31)) := (Below.refl _ w).alloc (Nat.le_refl _) _
  have hs1 : (w.alloc (.cells #[.bool x.s, .int .i64 x.H.toInt, .int .i64 x.L.toInt, .int .i64 ((wd x.s : Int) - (k : Int))] 31)).heap.size = w.heap.size + 1 := by simp
  have hE : ∀ W1 : World, W1 = (w.alloc (.cells #[.bool x.s, .int .i64 x.H.toInt, .int .i64 x.L.toInt, .int .i64 ((wd x.s : Int) - (k : Int))] 31)) → W1 = W1 := fun _ _ => rfl
  generalize (w.alloc (.cells #[.bool x.s, .int .i64 x.H.toInt, .int .i64 x.L.toInt, .int .i64 ((wd x.s : Int) - (k : Int))] 31)) = W1 at *
  clear hE
  have HO : Hid (OwnR 31 (W1.alloc (.cells #[] 31)) (w.heap.size + 1) (.slice (some ⟨w.heap.size + 1, 0, none⟩) 0 0) []) := by
    refine hidP ?_
    have h := own_zero W1 (w.heap.size + 1) 31 (by omega)
    rw [hs1] at h; exact h
  have HBW := hidP hBW
  have HB0 := hidP (And.intro b0 (And.intro b1 (And.intro b2 b3)))
  have HS1 := hidP hs1
  clear b0 b1 b2 b3 hBW hs1
  go_loopw [5, 6] (fun t5 t6 wr => ∃ (i : Nat) (a5 : Option Addr) (m5 c5 : Nat), i ≤ n ∧ t6 = .int .i64 i ∧ t5 = .slice a5 m5 c5 ∧ m5 = ((xs.take i).filter (fun t => wB t x)).length ∧ OwnR 31 wr (w.heap.size + 1) (.slice a5 m5 c5) (((xs.take i).filter (fun t => wB t x)).map Sp.pre) ∧ (xs.take i).any (wB x) = false ∧ Below (w.heap.size + 1) W1 wr) (fun _ t6 _ => n - (intOf t6).toNat)
  case atStart => exact ⟨0, _, 0, 0, Nat.zero_le _, rfl, rfl, by simp, by simpa using HO.out, by simp, (Below.refl _ W1).alloc (by rw [HS1.out]; exact Nat.le_refl _) _⟩
  case round =>
    obtain ⟨i, a5, m5, c5, hi, rfl, rfl, hm5, hown, hany, hbel⟩ := hrel
    have hb' := HB0.out
    have c0 := (hbel.cell (Nat.lt_succ_self w.heap.size)).trans hb'.1
    have c1 := (hbel.cell (Nat.lt_succ_self w.heap.size)).trans hb'.2.1
    have c2 := (hbel.cell (Nat.lt_succ_self w.heap.size)).trans hb'.2.2.1
    have c3 := (hbel.cell (Nat.lt_succ_self w.heap.size)).trans hb'.2.2.2
    clear hb'
    have hzr : w.heap.size + 1 ≤ wr.heap.size := by have := hbel.size; rw [HS1.out] at this; exact this
    have HOw := hidP hown
    have HAny := hidP hany
    have HBel := hidP hbel
    have HM5 := hidP hm5
    have hm9 : m5 ≤ 300 := by rw [hm5]; exact Nat.le_trans (List.length_filter_le _ _) (by rw [List.length_take]; omega)
    clear hown hany hm5 HO
    by_cases hlt : i < n
    · obtain ⟨p, o, t, rfl, hp, hq, e0, e1, e2, e3⟩ := HB.out.pre i (by rw [← HN.out]; exact hlt)
      have hpw : p < W1.heap.size := by rw [HS1.out]; omega
      have hpr : p < w.heap.size + 1 := by omega
      have d0 := (hbel.cell hpr).trans ((HBW.out.cell hp).trans e0)
      have d1 := (hbel.cell hpr).trans ((HBW.out.cell hp).trans e1)
      have d2 := (hbel.cell hpr).trans ((HBW.out.cell hp).trans e2)
      have d3 := (hbel.cell hpr).trans ((HBW.out.cell hp).trans e3)
      have HQ := hidP hq
      have ht : t.ok := HXs.out t (List.mem_of_getElem? hq)
      have hw1 : ∀ wx, Calls Try.prog 66 #[.agg #[.bool x.s, .int .i64 x.H.toInt, .int .i64 x.L.toInt, .int .i64 ((wd x.s : Int) - (k : Int))], .agg #[.bool t.s, .int .i64 t.H.toInt, .int .i64 t.L.toInt, .int .i64 ((wd t.s : Int) - (t.n : Int))]] wx fun e w' => e = .returned (.bool (wB x t)) ∧ Below wx.heap.size wx w' := fun wx => by
        have h := sWithin_any x.s x.H x.L ((wd x.s : Int) - (x.n : Int)) t.s t.H t.L ((wd t.s : Int) - (t.n : Int)) wx
        rw [win_wB HX.out ht, HK.out] at h; exact h
      have hw2 : ∀ wx, Calls Try.prog 66 #[.agg #[.bool t.s, .int .i64 t.H.toInt, .int .i64 t.L.toInt, .int .i64 ((wd t.s : Int) - (t.n : Int))], .agg #[.bool x.s, .int .i64 x.H.toInt, .int .i64 x.L.toInt, .int .i64 ((wd x.s : Int) - (k : Int))]] wx fun e w' => e = .returned (.bool (wB t x)) ∧ Below wx.heap.size wx w' := fun wx => by
        have h := sWithin_any t.s t.H t.L ((wd t.s : Int) - (t.n : Int)) x.s x.H x.L ((wd x.s : Int) - (x.n : Int)) wx
        rw [win_wB ht HX.out, HK.out] at h; exact h
      have HT := hidP ht
      have HW1 := hidP hw1
      have HW2 := hidP hw2
      clear e0 e1 e2 e3 hq ht hw1 hw2 hbel
      cases hxt : wB x t
      · rw [hxt] at HW1
        go_wp2_with fail
        go_region_with (first | (go_at_call 66; refine (HW1.out _).mono ?_; rintro e w2 ⟨rfl, hb2⟩))
        all_goals
          have hr2 : Below wr.heap.size wr w2 := (Below.refl _ wr).drew.trans (hb2.mono (by simp))
          have HB2 := hidP (HBel.out.trans (hr2.mono hzr))
          have HO2 := hidP (HOw.out.later hr2)
          have hz2 : w.heap.size + 1 ≤ w2.heap.size := Nat.le_trans hzr hr2.size
          have c0' := (hr2.cell (show w.heap.size < wr.heap.size by omega)).trans c0
          have c1' := (hr2.cell (show w.heap.size < wr.heap.size by omega)).trans c1
          have c2' := (hr2.cell (show w.heap.size < wr.heap.size by omega)).trans c2
          have c3' := (hr2.cell (show w.heap.size < wr.heap.size by omega)).trans c3
          have d0' := (hr2.cell (show p < wr.heap.size by omega)).trans d0
          have d1' := (hr2.cell (show p < wr.heap.size by omega)).trans d1
          have d2' := (hr2.cell (show p < wr.heap.size by omega)).trans d2
          have d3' := (hr2.cell (show p < wr.heap.size by omega)).trans d3
          clear hb2 hr2 c0 c1 c2 c3 d0 d1 d2 d3
          have HAny2 := hidP (any_snoc x t xs i HQ.out HAny.out hxt)
          cases htx : wB t x
          · rw [htx] at HW2
            have HNe := hidP (near_snoc x t xs i HQ.out)
            rw [htx, if_neg (by simp), List.append_nil] at HNe
            go_wp2_with fail
            go_region_with (first | (go_at_call 66; refine (HW2.out _).mono ?_; rintro e w3 ⟨rfl, hb3⟩))
            all_goals
              have hr3 : Below w2.heap.size w2 w3 := (Below.refl _ w2).drew.trans (hb3.mono (by simp))
              have HB3 := hidP (HB2.out.trans (hr3.mono hz2))
              have HO3 := hidP (HO2.out.later hr3)
              clear hb3 hr3
              go_wp2_with fail
              go_roundw
              case rel => exact ⟨i + 1, a5, m5, c5, by omega, by go_num, rfl, by rw [HNe.out]; exact HM5.out, by rw [HNe.out]; exact HO3.out, HAny2.out, HB3.out⟩
              case measure => simp [intOf]; omega
          · rw [htx] at HW2
            have HNe := hidP (near_snoc x t xs i HQ.out)
            rw [htx, if_pos rfl] at HNe
            go_wp2_with fail
            go_region_with (first | (go_at_call 66; refine (HW2.out _).mono ?_; rintro e w3 ⟨rfl, hb3⟩))
            all_goals
              have hr3 : Below w2.heap.size w2 w3 := (Below.refl _ w2).drew.trans (hb3.mono (by simp))
              have HB3 := hidP (HB2.out.trans (hr3.mono hz2))
              have HO3 := hidP (HO2.out.later hr3)
              have hz3 : w.heap.size + 1 ≤ w3.heap.size := Nat.le_trans hz2 hr3.size
              have d0 := (hr3.cell (show p < w2.heap.size by omega)).trans d0'
              have d1 := (hr3.cell (show p < w2.heap.size by omega)).trans d1'
              have d2 := (hr3.cell (show p < w2.heap.size by omega)).trans d2'
              have d3 := (hr3.cell (show p < w2.heap.size by omega)).trans d3'
              clear hb3 hr3 d0' d1' d2' d3' c0' c1' c2' c3'
              go_wp2_with (at_builtin; refine wpList_appR Try.fourP _ rfl (.tmp 29) (.tmp 34) 24 rfl (w.heap.size + 1) a5 m5 c5 1 (((xs.take i).filter (fun t => wB t x)).map Sp.pre) [t.pre] (.slice (some ⟨w3.heap.size, 0, none⟩) 1 1) rfl (by rw [List.length_map]; exact HM5.out) rfl (HO3.out.alloc _) rfl (src_row Try.fourP 1 1 rfl (row_one w3 31 t.pre) (by simp)) (by omega) (by simp; omega) ?_; intro a6 c6 w4 ho4 hg4 ht4)
              go_roundw
              case rel => exact ⟨i + 1, a6, m5 + 1, c6, by omega, by go_num, rfl, by rw [HNe.out, List.length_append, ← HM5.out]; rfl, by rw [HNe.out, List.map_append]; exact ho4, HAny2.out, below_appR (HB3.out.alloc hz3 _) (HO3.out.alloc _) (by simp; omega) hg4⟩
              case measure => simp [intOf]; omega
      · rw [hxt] at HW1
        have HE : Hid (leftM k x xs = []) := by
          refine hidP (left_in ?_)
          rw [List.any_eq_true]
          exact ⟨t, List.mem_of_getElem? HQ.out, hxt⟩
        go_wp2_with fail
        go_region_with (first | (go_at_call 66; refine (HW1.out _).mono ?_; rintro e w2 ⟨rfl, hb2⟩))
        all_goals
          have hr2 : Below wr.heap.size wr w2 := (Below.refl _ wr).drew.trans (hb2.mono (by simp))
          have HB2 := hidP (HBW.out.trans ((HBel.out.trans (hr2.mono hzr)).mono (by omega)))
          have hz2 : w.heap.size ≤ w2.heap.size := by have := hr2.size; omega
          clear hb2 hr2
          go_wp2_with fail
          go_ret
          rw [HE.out]
          exact ⟨_, _, rfl, own_zero w2 w.heap.size 31 hz2, HB2.out.alloc hz2 _⟩
    · have hin : i = n := by omega
      subst hin
      clear hbel
      have eT : xs.take i = xs := by rw [HN.out, List.take_length]
      rw [eT] at HM5 HOw HAny
      clear eT
      have HBr := hidP (HBW.out.trans (HBel.out.mono (by omega)))
      by_cases hm0 : m5 = 0
      · have HE : Hid (leftM k x xs = [x]) := hidP (left_all HAny.out (List.eq_nil_of_length_eq_zero (by rw [← HM5.out]; exact hm0)))
        subst hm0
        go_wp2_with fail
        go_ret
        rw [HE.out]
        have h1 := own_one wr w.heap.size 31 x.pre (by omega)
        unfold Sp.pre at h1
        rw [HK.out] at h1
        refine ⟨_, _, rfl, ?_, HBr.out.alloc (by omega) _⟩
        show OwnR _ _ _ _ [x.pre]
        unfold Sp.pre
        rw [HK.out]
        exact h1
      · have hne : xs.filter (fun t => wB t x) ≠ [] := fun h => hm0 (by rw [HM5.out, h]; rfl)
        obtain ⟨k', rfl⟩ : ∃ k', k = k' + 1 := by
          cases k with
          | zero => exact absurd (near_zero HK.out hne) (by rw [HAny.out]; simp)
          | succ k' => exact ⟨k', rfl⟩
        have HE := hidP (left_two (k := k') HAny.out hne)
        have hx := HX.out
        have hxn := HK.out
        have hlow := low_ok hx hxn
        have hupp := upp_ok hx hxn
        have hwd : x.n ≤ wd x.s := hx.2.1
        have hh : ∀ wx, Calls Try.prog 67 #[.agg #[.bool x.s, .int .i64 x.H.toInt, .int .i64 x.L.toInt, .int .i64 ((wd x.s : Int) - ((k' + 1 : Nat) : Int))]] wx fun e w' => e = .returned (.tuple #[.agg #[.bool x.s, .int .i64 x.H.toInt, .int .i64 x.L.toInt, .int .i64 ((wd x.s : Int) - (k' : Int))], .agg #[.bool x.s, .int .i64 (cH k' (fH (k' + 1) x.H)).toInt, .int .i64 (cL k' (fL (k' + 1) x.L)).toInt, .int .i64 ((wd x.s : Int) - (k' : Int))]]) ∧ Below wx.heap.size wx w' := fun wx => by
          have h := l2Halves_any x.s x.H x.L ((wd x.s : Int) - ((k' + 1 : Nat) : Int)) k' (by omega) hx.1 (by omega) wx
          rw [show (wd x.s : Int) - ((k' + 1 : Nat) : Int) + 1 = (wd x.s : Int) - (k' : Int) by omega] at h
          exact h
        have HH := hidP hh
        have hxs2 : ∀ t ∈ xs.filter (fun t => wB t x), t.ok := fun t ht => HXs.out t (List.mem_filter.1 ht).1
        have IHl := fun a cap w hR => HI.out k' (Nat.lt_succ_self k') (lowS x k') hlow rfl (xs.filter fun t => wB t x) hxs2 (by rw [← HM5.out]; omega) a cap w hR
        have IHu := fun a cap w hR => HI.out k' (Nat.lt_succ_self k') (uppS x k') hupp rfl (xs.filter fun t => wB t x) hxs2 (by rw [← HM5.out]; omega) a cap w hR
        have hb1 := left_le hlow (xs.filter fun t => wB t x) (by rw [← HM5.out]; omega)
        have hb2 := left_le hupp (xs.filter fun t => wB t x) (by rw [← HM5.out]; omega)
        rw [← HM5.out] at IHl IHu
        obtain ⟨l1, hl1⟩ : ∃ l1, l1 = leftM k' (lowS x k') (xs.filter fun t => wB t x) := ⟨_, rfl⟩
        obtain ⟨l2, hl2⟩ : ∃ l2, l2 = leftM k' (uppS x k') (xs.filter fun t => wB t x) := ⟨_, rfl⟩
        change (leftM k' (lowS x k') (xs.filter fun t => wB t x)).length ≤ 38401 at hb1
        change (leftM k' (uppS x k') (xs.filter fun t => wB t x)).length ≤ 38401 at hb2
        rw [← hl1] at hb1 IHl HE
        rw [← hl2] at hb2 IHu HE
        obtain ⟨H2, hH2⟩ : ∃ H2, H2 = cH k' (fH (k' + 1) x.H) := ⟨_, rfl⟩
        obtain ⟨L2, hL2⟩ : ∃ L2, L2 = cL k' (fL (k' + 1) x.L) := ⟨_, rfl⟩
        rw [← hH2, ← hL2] at HH
        have HIl : Hid (∀ (a : Option Addr) (cap : Nat) (w : World), Row w a ((xs.filter fun t => wB t x).map Sp.pre) → Calls Try.prog 47 #[.agg #[.bool x.s, .int .i64 x.H.toInt, .int .i64 x.L.toInt, .int .i64 ((wd x.s : Int) - (k' : Int))], .slice a m5 cap] w fun e w' => ∃ a' c', e = .returned (.slice a' l1.length c') ∧ OwnR 31 w' w.heap.size (.slice a' l1.length c') (l1.map Sp.pre) ∧ Below w.heap.size w w') := hidP IHl
        have HIu : Hid (∀ (a : Option Addr) (cap : Nat) (w : World), Row w a ((xs.filter fun t => wB t x).map Sp.pre) → Calls Try.prog 47 #[.agg #[.bool x.s, .int .i64 H2.toInt, .int .i64 L2.toInt, .int .i64 ((wd x.s : Int) - (k' : Int))], .slice a m5 cap] w fun e w' => ∃ a' c', e = .returned (.slice a' l2.length c') ∧ OwnR 31 w' w.heap.size (.slice a' l2.length c') (l2.map Sp.pre) ∧ Below w.heap.size w w') := by
          rw [hH2, hL2]; exact hidP IHu
        have hm1 : (((m5 : Nat) : Int) == 0) = false := by rw [beq_eq_false_iff_ne]; omega
        clear hne hx hxn hlow hupp hwd hh hxs2 IHl IHu hl1 hl2 hm0 hH2 hL2
        go_wp2_with fail
        refine (HH.out _).mono ?_
        rintro e w2 ⟨rfl, hb2'⟩
        have hz2 := hb2'.size
        have HRw := hidP ((HOw.out.row).later hb2')
        have HB2 := hidP (HBr.out.trans (hb2'.mono (by omega)))
        clear hb2' HOw HBr c0 c1 c2 c3
        go_wp2_with fail
        obtain ⟨p0, p1, p2, p3⟩ := box_cells w2 31 ⟨x.s, x.H, x.L, (wd x.s : Int) - (k' : Int)⟩
        obtain ⟨q0, q1, q2, q3⟩ := box_cells (w2.alloc (.cells #[.bool x.s, .int .i64 x.H.toInt, .int .i64 x.L.toInt, .int .i64 ((wd x.s : Int) - (k' : Int))] 31)) 31 ⟨x.s, H2, L2, (wd x.s : Int) - (k' : Int)⟩
        have hbb : Below w2.heap.size w2 ((w2.alloc (.cells #[.bool x.s, .int .i64 x.H.toInt, .int .i64 x.L.toInt, .int .i64 ((wd x.s : Int) - (k' : Int))] 31)).alloc (.cells #[.bool x.s, .int .i64 H2.toInt, .int .i64 L2.toInt, .int .i64 ((wd x.s : Int) - (k' : Int))] 31)) := ((Below.refl _ w2).alloc (Nat.le_refl _) _).alloc (by simp) _
        have hb1' : Below (w2.heap.size + 1) (w2.alloc (.cells #[.bool x.s, .int .i64 x.H.toInt, .int .i64 x.L.toInt, .int .i64 ((wd x.s : Int) - (k' : Int))] 31)) ((w2.alloc (.cells #[.bool x.s, .int .i64 x.H.toInt, .int .i64 x.L.toInt, .int .i64 ((wd x.s : Int) - (k' : Int))] 31)).alloc (.cells #[.bool x.s, .int .i64 H2.toInt, .int .i64 L2.toInt, .int .i64 ((wd x.s : Int) - (k' : Int))] 31)) := (Below.refl _ _).alloc (by simp) _
        have hsz : ((w2.alloc (.cells #[.bool x.s, .int .i64 x.H.toInt, .int .i64 x.L.toInt, .int .i64 ((wd x.s : Int) - (k' : Int))] 31)).alloc (.cells #[.bool x.s, .int .i64 H2.toInt, .int .i64 L2.toInt, .int .i64 ((wd x.s : Int) - (k' : Int))] 31)).heap.size = w2.heap.size + 2 := by simp
        have p0' := (hb1'.cell (Nat.lt_succ_self _)).trans p0
        have p1' := (hb1'.cell (Nat.lt_succ_self _)).trans p1
        have p2' := (hb1'.cell (Nat.lt_succ_self _)).trans p2
        have p3' := (hb1'.cell (Nat.lt_succ_self _)).trans p3
        simp only [heap_size_alloc'] at q0 q1 q2 q3
        generalize ((w2.alloc (.cells #[.bool x.s, .int .i64 x.H.toInt, .int .i64 x.L.toInt, .int .i64 ((wd x.s : Int) - (k' : Int))] 31)).alloc (.cells #[.bool x.s, .int .i64 H2.toInt, .int .i64 L2.toInt, .int .i64 ((wd x.s : Int) - (k' : Int))] 31)) = W at *
        have hc8 : W.cell? ⟨w2.heap.size, 0, none⟩ = some (.bool x.s) ∧ W.cell? ⟨w2.heap.size, 1, none⟩ = some (.int .i64 x.H.toInt) ∧ W.cell? ⟨w2.heap.size, 2, none⟩ = some (.int .i64 x.L.toInt) ∧ W.cell? ⟨w2.heap.size, 3, none⟩ = some (.int .i64 ((wd x.s : Int) - (k' : Int))) ∧ W.cell? ⟨w2.heap.size + 1, 0, none⟩ = some (.bool x.s) ∧ W.cell? ⟨w2.heap.size + 1, 1, none⟩ = some (.int .i64 H2.toInt) ∧ W.cell? ⟨w2.heap.size + 1, 2, none⟩ = some (.int .i64 L2.toInt) ∧ W.cell? ⟨w2.heap.size + 1, 3, none⟩ = some (.int .i64 ((wd x.s : Int) - (k' : Int))) ∧ Below W.heap.size W W := ⟨p0', p1', p2', p3', q0, q1, q2, q3, Below.refl _ W⟩
        have HRW := hidP (HRw.out.later hbb)
        have HBW2 := hidP (HB2.out.trans (hbb.mono (by omega)))
        clear p0 p1 p2 p3 q0 q1 q2 q3 hb1' hbb HRw p0' p1' p2' p3'
        have hg1 : w2.heap.size < W.heap.size := by omega
        have hg2 : w2.heap.size + 1 < W.heap.size := by omega
        go_region_held3 (fun w' => w'.cell? ⟨w2.heap.size, 0, none⟩ = some (.bool x.s) ∧ w'.cell? ⟨w2.heap.size, 1, none⟩ = some (.int .i64 x.H.toInt) ∧ w'.cell? ⟨w2.heap.size, 2, none⟩ = some (.int .i64 x.L.toInt) ∧ w'.cell? ⟨w2.heap.size, 3, none⟩ = some (.int .i64 ((wd x.s : Int) - (k' : Int))) ∧ w'.cell? ⟨w2.heap.size + 1, 0, none⟩ = some (.bool x.s) ∧ w'.cell? ⟨w2.heap.size + 1, 1, none⟩ = some (.int .i64 H2.toInt) ∧ w'.cell? ⟨w2.heap.size + 1, 2, none⟩ = some (.int .i64 L2.toInt) ∧ w'.cell? ⟨w2.heap.size + 1, 3, none⟩ = some (.int .i64 ((wd x.s : Int) - (k' : Int))) ∧ Below W.heap.size W w') (first | (with_reducible exact hc8) | (with_reducible exact keep8 (p := ⟨x.s, x.H, x.L, (wd x.s : Int) - (k' : Int)⟩) (q := ⟨x.s, H2, L2, (wd x.s : Int) - (k' : Int)⟩) hg1 hg2 hc8 b5) | (with_reducible exact keep8 (p := ⟨x.s, x.H, x.L, (wd x.s : Int) - (k' : Int)⟩) (q := ⟨x.s, H2, L2, (wd x.s : Int) - (k' : Int)⟩) hg1 hg2 hc8 b4) | (with_reducible exact keep8 (p := ⟨x.s, x.H, x.L, (wd x.s : Int) - (k' : Int)⟩) (q := ⟨x.s, H2, L2, (wd x.s : Int) - (k' : Int)⟩) hg1 hg2 hc8 b3) | (with_reducible exact keep8 (p := ⟨x.s, x.H, x.L, (wd x.s : Int) - (k' : Int)⟩) (q := ⟨x.s, H2, L2, (wd x.s : Int) - (k' : Int)⟩) hg1 hg2 hc8 (Below.refl _ _).drew))
          (first | (go_at_call_of 47 (Value.int IntKind.i64 x.H.toInt); refine (HIl.out a5 c5 _ (HRW.out.later (last8 (by assumption)))).mono ?_; rintro e w3 ⟨a3, c3, rfl, o3, h3⟩; have o3' := o3.mono (last8 (by assumption)).size; have b3 := (last8 (by assumption)).trans (h3.mono (last8 (by assumption)).size)) | (go_at_call_of 47 (Value.int IntKind.i64 H2.toInt); refine (HIu.out a5 c5 _ (HRW.out.later (last8 (by assumption)))).mono ?_; rintro e w4 ⟨a4, c4, rfl, o4, h4⟩; have b4 := (last8 (by assumption)).trans (h4.mono (last8 (by assumption)).size)) | (refine step_appR Try.fourP _ rfl (.tmp 48) (.tmp 51) 24 rfl W.heap.size a3 l1.length c3 l2.length (l1.map Sp.pre) (l2.map Sp.pre) (.slice a4 l2.length c4) rfl (by rw [List.length_map]) (by rw [List.length_map]) (o3'.later h4) rfl (src_row Try.fourP _ _ (by rw [List.length_map]) o4.row o4.caps.2.2.2) (by omega) b4.size ?_; intro a6 c6 w5 o5 r5 t5; have b5 := below_appR b4 (o3'.later h4) b4.size r5))
        all_goals
          have HF : Hid (OwnR 31 w5 w.heap.size (.slice a6 (l1.length + l2.length) c6) ((l1 ++ l2).map Sp.pre) ∧ Below w.heap.size w w5) := by
            refine hidP ⟨?_, HBW2.out.trans (b5.mono HBW2.out.size)⟩
            rw [List.map_append]
            exact o5.mono HBW2.out.size
          clear o3 o3' h3 b3 o4 h4 b4 o5 r5 t5 b5
          go_wp2_with fail
          go_ret
          rw [HE.out, List.length_append]
          exact ⟨_, _, rfl, HF.out.1, HF.out.2⟩
theorem l2Left_all (k : Nat) : SLeft k := Nat.strongRecOn k fun k ih => l2Left_step k ih

end Go.Proofs.Ytgohffeneibhdaa

namespace Go.Proofs.Ytgohffeneibhdaa
open Go.RowKit

/-- The blocks of M lie as they lay. -/
structure Kpt (M : Nat → Prop) (A B : World) : Prop where
  os : B.os = A.os
  tape : B.tape = A.tape
  output : B.output = A.output
  size : A.heap.size ≤ B.heap.size
  block : ∀ k, k < A.heap.size → M k → B.heap[k]? = A.heap[k]?

theorem Kpt.refl (M : Nat → Prop) (A : World) : Kpt M A A := ⟨rfl, rfl, rfl, Nat.le_refl _, fun _ _ _ => rfl⟩
theorem Kpt.mono {M N : Nat → Prop} {A B : World} (h : Kpt M A B) (hn : ∀ k, N k → M k) : Kpt N A B := ⟨h.os, h.tape, h.output, h.size, fun k hk hm => h.block k hk (hn k hm)⟩
theorem Kpt.trans {M : Nat → Prop} {A B C : World} (h : Kpt M A B) (g : Kpt M B C) : Kpt M A C :=
  ⟨g.os.trans h.os, g.tape.trans h.tape, g.output.trans h.output, Nat.le_trans h.size g.size, fun k hk hm => (g.block k (Nat.lt_of_lt_of_le hk h.size) hm).trans (h.block k hk hm)⟩
theorem Kpt.ofBelow {A B : World} (M : Nat → Prop) (h : Below A.heap.size A B) : Kpt M A B := ⟨h.os, h.tape, h.output, h.size, fun k hk _ => h.block k hk⟩
theorem Kpt.below {n : Nat} {A B : World} (h : Kpt (fun k => k < n) A B) (hn : n ≤ A.heap.size) : Below n A B := ⟨h.os, h.tape, h.output, h.size, fun k hk => h.block k (by omega) hk⟩
theorem Kpt.cell {M : Nat → Prop} {A B : World} (h : Kpt M A B) {p : Addr} (hp : p.block < A.heap.size) (hm : M p.block) : B.cell? p = A.cell? p := World.cell?_of_block (w := A) (h.block p.block hp hm)
theorem kpt_put (A : World) (l : Nat) (o : Obj) : Kpt (fun k => k ≠ l) A (A.putObj l o) := ⟨rfl, rfl, rfl, by simp, fun _ _ hk => World.putObj_heap_other hk⟩

/-- Behind a round (or a part of the iterator): what was none of M's lies; the new M' has of the old blocks none but M's. -/
structure Grw (M M' : Nat → Prop) (A B : World) : Prop where
  kept : Kpt (fun k => ¬ M k) A B
  old : ∀ k, M' k → k < A.heap.size → M k
  fit : ∀ k, M' k → k < B.heap.size

theorem Grw.trans {M M' M'' : Nat → Prop} {A B C : World} (h : Grw M M' A B) (g : Grw M' M'' B C) : Grw M M'' A C :=
  ⟨⟨g.kept.os.trans h.kept.os, g.kept.tape.trans h.kept.tape, g.kept.output.trans h.kept.output, Nat.le_trans h.kept.size g.kept.size, fun k hk hm =>
      (g.kept.block k (Nat.lt_of_lt_of_le hk h.kept.size) (fun h' => hm (h.old k h' hk))).trans (h.kept.block k hk hm)⟩,
    fun k hk hl => h.old k (g.old k hk (Nat.lt_of_lt_of_le hl h.kept.size)) hl, g.fit⟩
theorem Grw.ofBelow {M : Nat → Prop} {A B : World} (h : Below A.heap.size A B) (hf : ∀ k, M k → k < A.heap.size) : Grw M M A B :=
  ⟨Kpt.ofBelow _ h, fun _ hm _ => hm, fun k hm => Nat.lt_of_lt_of_le (hf k hm) h.size⟩
theorem Grw.refl {M : Nat → Prop} {A : World} (hf : ∀ k, M k → k < A.heap.size) : Grw M M A A := Grw.ofBelow (Below.refl _ A) hf

/-- The rounds of loop l, over xs: J b pre M W: pre have come; b: it goes on. -/
def Rnds {α : Type} (P : Program) (l : Nat) (encs : α → Array Value) (xs : List α) (J : Bool → List α → (Nat → Prop) → World → Prop) : Prop :=
  ∀ m pre x M W, J true pre M W → (∀ k, M k → k < W.heap.size) → pre ++ [x] <+: xs → YieldAt Fence.wide m P l (encs x) W fun e W' => ∃ b M', e = .returned (.bool b) ∧ J b (pre ++ [x]) M' W' ∧ Grw M M' W W'
def Abd {α : Type} (J : Bool → List α → (Nat → Prop) → World → Prop) : Prop := ∀ b pre M A B, J b pre M A → Kpt M A B → J b pre M B
/-- How an iterator may end that has been given pre ahead and has xs to hand out: all have come, or a round has said no. -/
def Ends {α : Type} (J : Bool → List α → (Nat → Prop) → World → Prop) (all xs : List α) (M : Nat → Prop) (W W' : World) (b : Bool) : Prop :=
  ∃ pre M', J b pre M' W' ∧ Grw M M' W W' ∧ (b = true → pre = xs) ∧ (b = false → pre <+: all)
/-- An iterator: it hands out xs, one by one; it reads the blocks of R. -/
def Iter {α : Type} (P : Program) (g : Nat) (lb : Array Value) (encs : α → Array Value) (xs : List α) (R : Nat → Prop) (w : World) : Prop :=
  ∀ (l : Nat) (J : Bool → List α → (Nat → Prop) → World → Prop) (M : Nat → Prop) (W : World), Kpt R w W → (∀ k, R k → ¬ M k) → (∀ k, M k → k < W.heap.size) → Abd J → Rnds P l encs xs J → J true [] M W →
    Calls P g (#[.func (.yield l) #[] #[]] ++ lb) W fun e W' => (∃ v, e = .returned v) ∧ ∃ b, Ends J xs xs M W W' b

/-- How the body of a round may be left. -/
def rndQ {α : Type} (I : List α → (Nat → Prop) → World → Prop) (Ix : Code → List α → (Nat → Prop) → World → Prop) (M : Nat → Prop) (ys : List α) (W : World) : Exit → Act → World → Prop
  | .normal, _, W' => ∃ M', I ys M' W' ∧ Grw M M' W W'
  | .ret, _, W' => ∃ M', Ix .ret ys M' W' ∧ Grw M M' W W'
  | .exit id, _, W' => ∃ M', Ix (.exit id) ys M' W' ∧ Grw M M' W W'
  | .goto t, _, W' => ∃ M', Ix (.goto t) ys M' W' ∧ Grw M M' W W'
  | .panic _, _, _ => False
  | .outgrown, _, _ => False

theorem wide_any {l m m' : Nat} {P : Program} {c : Code} {Q : Exit → Act → World → Prop} {a : Act} {w : World} (h : c.wpIn (Fence.wide.inRound l) m P Q a w) : c.wpIn (Fence.wide.inRound l) m' P Q a w :=
  fun b k cs hro hb _ => h b k cs hro hb (fun d hd => by simp [Fence.wide] at hd)

/-- The loop's own J. -/
def lpJ {α : Type} (rec : LoopState → Option Code → Loop) (D l : Nat) (I : List α → (Nat → Prop) → World → Prop) (Ix : Code → List α → (Nat → Prop) → World → Prop) (b : Bool) (pre : List α) (M : Nat → Prop) (W : World) : Prop :=
  ∃ M1, (∀ k, M k ↔ (M1 k ∨ k = D ∨ k = l)) ∧ ¬ M1 D ∧ ¬ M1 l ∧ W.heap[D]? = some (.deferred (some [])) ∧
    ((b = true ∧ I pre M1 W ∧ W.heap[l]? = some (.loop (rec .ready none))) ∨ (b = false ∧ ∃ c, Ix c pre M1 W ∧ W.heap[l]? = some (.loop (rec .done (some c)))))

theorem lp_abd {α : Type} {rec : LoopState → Option Code → Loop} {D l : Nat} {I : List α → (Nat → Prop) → World → Prop} {Ix : Code → List α → (Nat → Prop) → World → Prop}
    (hI : ∀ pre M A B, I pre M A → Kpt M A B → I pre M B) (hIx : ∀ c pre M A B, Ix c pre M A → Kpt M A B → Ix c pre M B) : Abd (lpJ rec D l I Ix) := by
  rintro b pre M A B ⟨M1, hM, h1, h2, hD, h⟩ hk
  have hk1 : Kpt M1 A B := hk.mono fun k h => (hM k).2 (Or.inl h)
  have lt : ∀ {k : Nat} {o : Obj}, A.heap[k]? = some o → k < A.heap.size := fun h => (Array.getElem?_eq_some_iff.1 h).1
  refine ⟨M1, hM, h1, h2, (hk.block D (lt hD) ((hM D).2 (Or.inr (Or.inl rfl)))).trans hD, ?_⟩
  rcases h with ⟨rfl, hi, hl⟩ | ⟨rfl, c, hi, hl⟩
  · exact Or.inl ⟨rfl, hI _ _ _ _ hi hk1, (hk.block l (lt hl) ((hM l).2 (Or.inr (Or.inr rfl)))).trans hl⟩
  · exact Or.inr ⟨rfl, c, hIx _ _ _ _ _ hi hk1, (hk.block l (lt hl) ((hM l).2 (Or.inr (Or.inr rfl)))).trans hl⟩

/-- The end of a round: the record is written anew, all else lies. -/
theorem lp_end {α : Type} {P : Program} {rec : LoopState → Option Code → Loop} {D l : Nat} {I : List α → (Nat → Prop) → World → Prop} {Ix : Code → List α → (Nat → Prop) → World → Prop}
    (hrec : ∀ s p s' p', { rec s p with state := s', pending := p' } = rec s' p')
    (hI : ∀ pre M A B, I pre M A → Kpt M A B → I pre M B) (hIx : ∀ c pre M A B, Ix c pre M A → Kpt M A B → Ix c pre M B)
    {M M1 M' : Nat → Prop} {W W2 W3 : World} {ys : List α} (hDl : D ≠ l) (hM : ∀ k, M k ↔ (M1 k ∨ k = D ∨ k = l)) (hD1 : ¬ M1 D) (hl1 : ¬ M1 l)
    (hWW : Kpt (fun k => k ≠ l) W W2) (hl2 : W2.heap[l]? = some (.loop (rec .busy none))) (hD2 : W2.heap[D]? = some (.deferred (some []))) (hg : Grw M1 M' W2 W3)
    (jump : Option Code) (hj : (jump = none ∧ I ys M' W3) ∨ ∃ c, jump = some c ∧ Ix c ys M' W3) :
    ∃ v w', (Instr.endRound l jump).run P W3 = .ok v w' ∧ ∃ b M'', Ending.returned v = .returned (.bool b) ∧ lpJ rec D l I Ix b ys M'' w' ∧ Grw M M'' W w' := by
  have lt : ∀ {A : World} {k : Nat} {o : Obj}, A.heap[k]? = some o → k < A.heap.size := fun h => (Array.getElem?_eq_some_iff.1 h).1
  have hl3 := (hg.kept.block l (lt hl2) hl1).trans hl2
  have hD3 := (hg.kept.block D (lt hD2) hD1).trans hD2
  have hlM : ¬ M' l := fun h => hl1 (hg.old l h (lt hl2))
  have hDM : ¬ M' D := fun h => hD1 (hg.old D h (lt hD2))
  have hrun := run_endRound (P := P) jump hl3
  rw [hrec] at hrun
  have kp : ∀ o, Kpt M' W3 (W3.putObj l o) := fun o => (kpt_put W3 l o).mono (fun k hk e => hlM (e ▸ hk))
  have hD4 : ∀ o, (W3.putObj l o).heap[D]? = some (.deferred (some [])) := fun o => (World.putObj_heap_other hDl).trans hD3
  have hl4 : ∀ o, (W3.putObj l o).heap[l]? = some o := fun o => World.putObj_heap_same (lt hl3)
  have hgr : ∀ o, Grw M (fun k => M' k ∨ k = D ∨ k = l) W (W3.putObj l o) := fun o =>
    ⟨⟨hg.kept.os.trans hWW.os, hg.kept.tape.trans hWW.tape, hg.kept.output.trans hWW.output, by have a := hWW.size; have b := hg.kept.size; simp; omega, fun k hk hn => by
        have n1 : ¬ M1 k := fun h => hn ((hM k).2 (Or.inl h))
        have n2 : k ≠ l := fun h => hn ((hM k).2 (Or.inr (Or.inr h)))
        exact (World.putObj_heap_other n2).trans ((hg.kept.block k (Nat.lt_of_lt_of_le hk hWW.size) n1).trans (hWW.block k hk n2))⟩,
      fun k hk hkw => (hM k).2 (hk.imp (fun h => hg.old k h (Nat.lt_of_lt_of_le hkw hWW.size)) id),
      fun k hk => by
        rw [World.putObj_size]
        rcases hk with h | rfl | rfl
        · exact hg.fit k h
        · exact lt hD3
        · exact lt hl3⟩
  refine ⟨_, _, hrun, ?_⟩
  rcases hj with ⟨rfl, hi⟩ | ⟨c, rfl, hi⟩
  · exact ⟨true, _, rfl, ⟨M', fun _ => Iff.rfl, hDM, hlM, hD4 _, Or.inl ⟨rfl, hI _ _ _ _ hi (kp _), hl4 _⟩⟩, hgr _⟩
  · exact ⟨false, _, rfl, ⟨M', fun _ => Iff.rfl, hDM, hlM, hD4 _, Or.inr ⟨rfl, c, hIx _ _ _ _ _ hi (kp _), hl4 _⟩⟩, hgr _⟩

theorem wp_range {α : Type} {n : Nat} {P : Program} {g : Operand} {ps : Array Tmp} {assign body : Code} {Q : Exit → Act → World → Prop} {a : Act} {w : World}
    {gf : Nat} {lb : Array Value} (hg : a.eval g = .func (.func gf) #[] lb) (eg : ∀ args w, (callFunc gf args).run P w = .ok (.enter gf args) w)
    {encs : α → Array Value} {xs : List α} {R : Nat → Prop} (hit : Iter P gf lb encs xs R w) (hps : ∀ x, (encs x).size = ps.size) (hR : ∀ k, R k → k < w.heap.size)
    (I : List α → (Nat → Prop) → World → Prop) (Ix : Code → List α → (Nat → Prop) → World → Prop)
    (hI : ∀ pre M A B, I pre M A → Kpt M A B → I pre M B) (hIx : ∀ c pre M A B, Ix c pre M A → Kpt M A B → Ix c pre M B)
    (M0 : Nat → Prop) (hM0 : ∀ k, M0 k → k < w.heap.size) (hRM : ∀ k, R k → ¬ M0 k) (h0 : I [] M0 w)
    (hround : ∀ l pre x M W, I pre M W → (∀ k, M k → k < W.heap.size) → ¬ M l → w.heap.size < l → l < W.heap.size → pre ++ [x] <+: xs →
      assign.wpIn (Fence.wide.inRound l) 9 P (Exit.then (fun a1 W1 => Below W.heap.size W W1 ∧ ∀ W2, Kpt (fun k => k ≠ l) W1 W2 → W2.heap.size = W1.heap.size → I pre M W2 →
        body.wpIn (Fence.wide.inRound l) 9 P (rndQ I Ix M (pre ++ [x]) W2) a1 W2) (fun _ _ _ => False)) { tmps := (ps.zip (encs x)).foldl (fun t (p, v) => t.setIfInBounds p v) a.tmps, defers := [] } W)
    (hdone : ∀ D M' W', w.heap.size ≤ D → D < W'.heap.size → ¬ M' D → I xs M' W' → Grw M0 M' w W' → W'.heap[D]? = some (.deferred (some [])) → Q .normal { a with defers := { target := .collected D, args := #[] } :: a.defers } W')
    (hstop : ∀ D c pre M' W', w.heap.size ≤ D → D < W'.heap.size → ¬ M' D → pre <+: xs → Ix c pre M' W' → Grw M0 M' w W' → W'.heap[D]? = some (.deferred (some [])) → c.wpIn Fence.wide n P Q { a with defers := { target := .collected D, args := #[] } :: a.defers } W') :
    (Code.rangeFunc g ps assign body).wpIn Fence.wide n P Q a w := by
  refine wpIn_rangeFunc ?_
  intro fn _
  obtain ⟨rec, hrec⟩ : ∃ rec : LoopState → Option Code → Loop, rec = fun st pe => { state := st, pending := pe, fn, tmps := a.tmps, params := ps, assign, body, defers := w.heap.size } := ⟨_, rfl⟩
  have hrr : ∀ s p s' p', { rec s p with state := s', pending := p' } = rec s' p' := by intro s p s' p'; rw [hrec]
  obtain ⟨W1, hW1⟩ : ∃ W1, (w.alloc (.deferred (some []))).alloc (.loop (rec .ready none)) = W1 := ⟨_, rfl⟩
  have hs1 : W1.heap.size = w.heap.size + 2 := by rw [← hW1]; simp
  have hl1 : W1.heap[w.heap.size + 1]? = some (.loop (rec .ready none)) := by
    rw [← hW1]; have := World.alloc_heap_new (w.alloc (.deferred (some []))) (.loop (rec .ready none)); rwa [World.size_alloc] at this
  have hD1 : W1.heap[w.heap.size]? = some (.deferred (some [])) := by
    rw [← hW1]; exact (Below.heap_alloc _ _ _ (by simp)).trans (World.alloc_heap_new w _)
  have hb1 : Below w.heap.size w W1 := by rw [← hW1]; exact ((Below.refl _ w).alloc (Nat.le_refl _) _).alloc (by simp) _
  have lt : ∀ {A : World} {k : Nat} {o : Obj}, A.heap[k]? = some o → k < A.heap.size := fun h => (Array.getElem?_eq_some_iff.1 h).1
  refine ⟨w.heap.size + 1, [{ target := .collected w.heap.size, args := #[] }], W1, { target := .fn (.func gf) lb, args := #[.func (.yield (w.heap.size + 1)) #[] #[]] }, W1, gf,
    #[.func (.yield (w.heap.size + 1)) #[] #[]] ++ lb, W1, ?_, ?_, fun _ _ => trivial, ?_, fun h => by simp [Fence.wide] at h, ?_⟩
  · rw [← hW1, hrec]; exact run_enterLoop_outer _ _ _ _ _
  · simp only [resolve, hg]
    simp [go_sem]
  · simp [invoke, go_sem, eg]
  · refine callsIn_wide.2 ?_
    refine (hit (w.heap.size + 1) (lpJ rec w.heap.size (w.heap.size + 1) I Ix) (fun k => M0 k ∨ k = w.heap.size ∨ k = w.heap.size + 1) W1 (Kpt.ofBelow _ hb1)
      (fun k hk h => h.elim (hRM k hk) fun h => by have := hR k hk; omega)
      (fun k h => h.elim (fun h => by have := hM0 k h; omega) fun h => by omega) (lp_abd hI hIx) ?_
      ⟨M0, fun _ => Iff.rfl, fun h => Nat.lt_irrefl _ (hM0 _ h), fun h => by have := hM0 _ h; omega, hD1, Or.inl ⟨rfl, hI _ _ _ _ h0 (Kpt.ofBelow _ hb1), hl1⟩⟩).mono ?_
    · rintro m pre x M W ⟨M1, hM, n1, n2, hD, ⟨_, hi, hl⟩ | ⟨hb, _⟩⟩ hfit hpre
      case inr => cases hb
      have hy := run_yield (P := P) (args := encs x) hl (by rw [hrec]; exact hps x)
      rw [hrec] at hy
      refine ⟨fn, _, assign, body, hy, roundIn_of_wpIn trivial (wide_any (wpIn_mono (hround _ pre x M1 W hi (fun k hk => hfit k ((hM k).2 (Or.inl hk))) n2 (Nat.lt_succ_self _) (lt hl) hpre) ?_))⟩
      intro e a1 V1 hV
      cases e with
      | normal =>
        obtain ⟨hb, hbody⟩ := hV
        have hl2 := (hb.block _ (lt hl)).trans hl
        have hD2 := (hb.block _ (lt hD)).trans hD
        have hbr := run_beginRound (P := P) hl2 (by rw [hrec])
        have e1 : { rec .ready none with state := .busy } = rec .busy none := by rw [hrec]
        rw [e1] at hbr
        have kp := kpt_put V1 (w.heap.size + 1) (.loop (rec .busy none))
        refine ⟨_, hbr, wide_any (wpIn_mono (hbody _ kp (by simp) (hI _ _ _ _ hi ((Kpt.ofBelow M1 hb).trans (kp.mono fun k hk h => n2 (h ▸ hk))))) ?_)⟩
        have hl3 : (V1.putObj (w.heap.size + 1) (.loop (rec .busy none))).heap[w.heap.size + 1]? = some (.loop (rec .busy none)) := World.putObj_heap_same (lt hl2)
        have hD3 : (V1.putObj (w.heap.size + 1) (.loop (rec .busy none))).heap[w.heap.size]? = some (.deferred (some [])) := (World.putObj_heap_other (by omega)).trans hD2
        have fin := fun {M' W3} (hg : Grw M1 M' (V1.putObj (w.heap.size + 1) (.loop (rec .busy none))) W3) => lp_end (P := P) (ys := pre ++ [x]) hrr hI hIx (by omega) hM n1 n2 ((Kpt.ofBelow _ hb).trans kp) hl3 hD3 hg
        rintro e a3 W3 hp
        cases e with
        | normal => obtain ⟨M', hi', hg'⟩ := hp; exact fin hg' none (Or.inl ⟨rfl, hi'⟩)
        | ret => obtain ⟨M', hi', hg'⟩ := hp; exact fin hg' (some .ret) (Or.inr ⟨_, rfl, hi'⟩)
        | exit id => obtain ⟨M', hi', hg'⟩ := hp; exact fin hg' (some (.exit id)) (Or.inr ⟨_, rfl, hi'⟩)
        | goto t => obtain ⟨M', hi', hg'⟩ := hp; exact fin hg' (some (.goto t)) (Or.inr ⟨_, rfl, hi'⟩)
        | panic ch => exact hp.elim
        | outgrown => exact hp.elim
      | exit id => exact hV.elim
      | goto t => exact hV.elim
      | ret => exact hV.elim
      | panic ch => exact hV.elim
      | outgrown => exact hV.elim
    · rintro e W2 ⟨⟨v, rfl⟩, b, pre, M, ⟨M1, hM, n1, n2, hD, h⟩, hg', ht, hf⟩
      have kp : ∀ o, Kpt M1 W2 (W2.putObj (w.heap.size + 1) o) := fun o => (kpt_put W2 _ o).mono fun k hk e => n2 (e ▸ hk)
      have hgr : ∀ o, Grw M0 M1 w (W2.putObj (w.heap.size + 1) o) := fun o =>
        ⟨⟨hg'.kept.os.trans hb1.os, hg'.kept.tape.trans hb1.tape, hg'.kept.output.trans hb1.output, by have := hg'.kept.size; simp; omega, fun k hk hn => by
            refine (World.putObj_heap_other (by omega)).trans ((hg'.kept.block k (by omega) ?_).trans (hb1.block k hk))
            rintro (h | h | h)
            · exact hn h
            · omega
            · omega⟩,
          fun k hk hkw => by
            rcases hg'.old k ((hM k).2 (Or.inl hk)) (by omega) with h | h | h
            · exact h
            · omega
            · omega,
          fun k hk => by rw [World.putObj_size]; exact hg'.fit k ((hM k).2 (Or.inl hk))⟩
      have hD2 : ∀ o, (W2.putObj (w.heap.size + 1) o).heap[w.heap.size]? = some (.deferred (some [])) := fun o => (World.putObj_heap_other (by omega)).trans hD
      rcases h with ⟨rfl, hi, hl⟩ | ⟨rfl, c, hi, hl⟩
      · refine ⟨none, _, by have := run_endLoop (P := P) hl (by rw [hrec]; simp); rw [hrec] at this; exact this, ?_⟩
        have := ht rfl
        subst this
        exact hdone _ M1 _ (Nat.le_refl _) (by rw [World.putObj_size]; exact lt hD) n1 (hI _ _ _ _ hi (kp _)) (hgr _) (hD2 _)
      · refine ⟨some c, _, by have := run_endLoop (P := P) hl (by rw [hrec]; simp); rw [hrec] at this; exact this, ?_⟩
        exact hstop _ c pre M1 _ (Nat.le_refl _) (by rw [World.putObj_size]; exact lt hD) n1 (hf rfl) (hIx _ _ _ _ _ hi (kp _)) (hgr _) (hD2 _)

theorem rnd_of {F : Fence} {n : Nat} {P : Program} {c : Code} {K : Act → World → Prop} {N : Exit → Act → World → Prop} {a : Act} {w : World}
    (h : ∀ K' : Act → World → Prop, Hid (∀ a1 W1, K a1 W1 → K' a1 W1) → c.wpIn F n P (Exit.then K' N) a w) : c.wpIn F n P (Exit.then K N) a w := h K (fun _ _ h => h)

end Go.Proofs.Ytgohffeneibhdaa

namespace Go.Proofs.Ytgohffeneibhdaa
open Go.RowKit

attribute [local go_sem] Oper.semAt_some

theorem wBi {x y : Sp} (hy : y.ok) (w : World) : Calls Try.prog 42 #[.agg #[.bool x.s, .int .i64 x.H.toInt, .int .i64 x.L.toInt, .int .i64 x.n], .agg #[.bool y.s, .int .i64 y.H.toInt, .int .i64 y.L.toInt, .int .i64 y.n]] w fun e w' => e = .returned (.bool (wB x y)) ∧ Below w.heap.size w w' := within_any x.s x.H x.L x.n y.s y.H y.L y.n hy.le w

/-- A span is handed out as its prefix. -/
def encP (x : Sp) : Array Value := #[.agg #[.bool x.s, .int .i64 x.H.toInt, .int .i64 x.L.toInt, .int .i64 ((wd x.s : Int) - x.n)]]

theorem Row.kpt {w w' : World} {a : Option Addr} {ps : List Pf} {M : Nat → Prop} (h : Row w a ps) (hk : Kpt (fun k => ¬ M k) w w') (hne : ∀ p o, a = some ⟨p, o, none⟩ → ¬ M p) : Row w' a ps := fun j hj => by
  obtain ⟨p, o, q, ha, hp, hq, c0, c1, c2, c3⟩ := h j hj
  have e : ∀ i, w'.cell? ⟨p, i, none⟩ = w.cell? ⟨p, i, none⟩ := fun i => World.cell?_of_block (hk.block p hp (hne p o ha))
  exact ⟨p, o, q, ha, Nat.lt_of_lt_of_le hp hk.size, hq, (e _).trans c0, (e _).trans c1, (e _).trans c2, (e _).trans c3⟩

def IEach (k : Nat) : Prop := ∀ (x : Sp) (_ : x.ok) (_ : x.n = k) (xs : List Sp) (_ : ∀ t ∈ xs, t.ok) (_ : xs.length ≤ 300) (a : Option Addr) (cap : Nat) (w : World) (_ : Row w a (xs.map Sp.spn)) (l : Nat) (all : List Sp) (J : Bool → List Sp → (Nat → Prop) → World → Prop) (_ : Abd J) (_ : Rnds Try.prog l encP all J) (M : Nat → Prop) (_ : ∀ p o, a = some ⟨p, o, none⟩ → ¬ M p) (_ : ∀ k, M k → k < w.heap.size) (pre : List Sp) (_ : J true pre M w) (_ : pre ++ leftM k x xs <+: all),
  Calls Try.prog 75 #[.agg #[.bool x.s, .int .i64 x.H.toInt, .int .i64 x.L.toInt, .int .i64 (k : Int)], .slice a xs.length cap, .func (.yield l) #[] #[]] w fun e w' => ∃ b, e = .returned (.bool b) ∧ Ends J all (pre ++ leftM k x xs) M w w' b

theorem Ends.none {J : Bool → List Sp → (Nat → Prop) → World → Prop} {all pre ys : List Sp} {M : Nat → Prop} {w w' : World} (hA : Abd J) (hJ : J true pre M w) (hf : ∀ k, M k → k < w.heap.size) (hb : Below w.heap.size w w') (he : ys = []) : Ends J all (pre ++ ys) M w w' true :=
  ⟨pre, M, hA _ _ _ _ _ hJ (Kpt.ofBelow _ hb), Grw.ofBelow hb hf, fun _ => by rw [he, List.append_nil], fun h => by cases h⟩
theorem pre_left {α : Type} {p a b xs : List α} (h : p ++ (a ++ b) <+: xs) : p ++ a <+: xs := (List.prefix_append (p ++ a) b).trans (by rw [List.append_assoc]; exact h)

set_option maxRecDepth 10000 in
set_option maxHeartbeats 2000000 in
theorem each_step (k : Nat) (IH : ∀ j, j < k → IEach j) : IEach k := by
  intro x hx hk xs hxs hl a cap w hR l all J hA hRn M hdis hfit pre hJ hpre
  have HB := hidP hR
  have HX := hidP hx
  have HXs := hidP hxs
  have HI := hidP IH
  have hk9 : k ≤ 128 := by have := hx.le; omega
  have HK := hidP hk
  have HA := hidP hA
  have HRn := hidP hRn
  have HDis := hidP hdis
  have HFit := hidP hfit
  have HJ := hidP hJ
  have HPre := hidP hpre
  obtain ⟨n, hn⟩ : ∃ n, n = xs.length := ⟨_, rfl⟩
  rw [← hn] at hl ⊢
  have HN := hidP hn
  clear hR hx hxs IH hk hn hA hRn hdis hfit hJ hpre
  refine (callsIn_wide (n := 9)).1 (callsIn_of_wp Try.func75 rfl trivial ?_ rfl)
  simp only [Try.ntmps75, List.size_toArray, List.length_cons, List.length_nil, Nat.reduceAdd, Nat.reduceSub, Array.replicate_succ, Array.replicate_zero, List.push_toArray, List.append_toArray, List.nil_append, List.cons_append]
  gi_wp2
  obtain ⟨b0, b1, b2, b3⟩ := box_cells w 55 ⟨x.s, x.H, x.L, (k : Int)⟩
  have hBW : Below w.heap.size w (w.alloc (.cells #[.bool x.s, .int .i64 x.H.toInt, .int .i64 x.L.toInt, .int .i64 (k : Int)] 55)) := (Below.refl _ w).alloc (Nat.le_refl _) _
  have hs1 : (w.alloc (.cells #[.bool x.s, .int .i64 x.H.toInt, .int .i64 x.L.toInt, .int .i64 (k : Int)] 55)).heap.size = w.heap.size + 1 := by simp
  generalize (w.alloc (.cells #[.bool x.s, .int .i64 x.H.toInt, .int .i64 x.L.toInt, .int .i64 (k : Int)] 55)) = W1 at *
  have HBW := hidP hBW
  have HB0 := hidP (And.intro b0 (And.intro b1 (And.intro b2 b3)))
  have HS1 := hidP hs1
  clear b0 b1 b2 b3 hBW hs1
  refine wpIn_wide.2 ?_
  go_loopw [7, 14] (fun t7 t14 wr => ∃ (i : Nat) (a7 : Option Addr) (m7 c7 : Nat), i ≤ n ∧ t14 = .int .i64 i ∧ t7 = .slice a7 m7 c7 ∧ m7 = ((xs.take i).filter (fun t => wB t x)).length ∧ OwnR 55 wr (w.heap.size + 1) (.slice a7 m7 c7) (((xs.take i).filter (fun t => wB t x)).map Sp.spn) ∧ (xs.take i).any (wB x) = false ∧ Below (w.heap.size + 1) W1 wr) (fun _ t14 _ => n - (intOf t14).toNat)
  case atStart => exact ⟨0, none, 0, 0, Nat.zero_le _, rfl, rfl, by simp, own_none _ _ _, by simp, Below.refl _ W1⟩
  case round =>
    obtain ⟨i, a7, m7, c7, hi, rfl, rfl, hm7, hown, hany, hbel⟩ := hrel
    have hb' := HB0.out
    have c0 := (hbel.cell (Nat.lt_succ_self w.heap.size)).trans hb'.1
    have c1 := (hbel.cell (Nat.lt_succ_self w.heap.size)).trans hb'.2.1
    have c2 := (hbel.cell (Nat.lt_succ_self w.heap.size)).trans hb'.2.2.1
    have c3 := (hbel.cell (Nat.lt_succ_self w.heap.size)).trans hb'.2.2.2
    clear hb'
    have hzr : w.heap.size + 1 ≤ wr.heap.size := by have := hbel.size; rw [HS1.out] at this; exact this
    have hzq : w.heap.size < wr.heap.size := hzr
    have HOw := hidP hown
    have HAny := hidP hany
    have HBel := hidP hbel
    have HM7 := hidP hm7
    have hm9 : m7 ≤ 300 := by rw [hm7]; exact Nat.le_trans (List.length_filter_le _ _) (by rw [List.length_take]; omega)
    have HBr := hidP (HBW.out.trans (hbel.mono (Nat.le_succ _)))
    clear hown hany hm7
    by_cases hlt : i < n
    · obtain ⟨p, o, t, rfl, hp, hq, e0, e1, e2, e3⟩ := HB.out.spn i (by rw [← HN.out]; exact hlt)
      have hpr : p < w.heap.size + 1 := by omega
      have d0 := (hbel.cell hpr).trans ((HBW.out.cell hp).trans e0)
      have d1 := (hbel.cell hpr).trans ((HBW.out.cell hp).trans e1)
      have d2 := (hbel.cell hpr).trans ((HBW.out.cell hp).trans e2)
      have d3 := (hbel.cell hpr).trans ((HBW.out.cell hp).trans e3)
      have HQ := hidP hq
      have ht : t.ok := HXs.out t (List.mem_of_getElem? hq)
      have hw1 : ∀ wx, Calls Try.prog 42 #[.agg #[.bool x.s, .int .i64 x.H.toInt, .int .i64 x.L.toInt, .int .i64 (k : Int)], .agg #[.bool t.s, .int .i64 t.H.toInt, .int .i64 t.L.toInt, .int .i64 (t.n : Int)]] wx fun e w' => e = .returned (.bool (wB x t)) ∧ Below wx.heap.size wx w' := fun wx => by
        have h := wBi (x := x) ht wx
        rw [HK.out] at h; exact h
      have hw2 : ∀ wx, Calls Try.prog 42 #[.agg #[.bool t.s, .int .i64 t.H.toInt, .int .i64 t.L.toInt, .int .i64 (t.n : Int)], .agg #[.bool x.s, .int .i64 x.H.toInt, .int .i64 x.L.toInt, .int .i64 (k : Int)]] wx fun e w' => e = .returned (.bool (wB t x)) ∧ Below wx.heap.size wx w' := fun wx => by
        have h := wBi (x := t) HX.out wx
        rw [HK.out] at h; exact h
      have HW1 := hidP hw1
      have HW2 := hidP hw2
      have HBx := hidP (box_cells wr 55 ⟨t.s, t.H, t.L, (t.n : Int)⟩)
      clear e0 e1 e2 e3 hq ht hw1 hw2 hbel
      cases hxt : wB x t
      · rw [hxt] at HW1
        have HAny2 := hidP (any_snoc x t xs i HQ.out HAny.out hxt)
        go_wp2_with fail
        refine (HW1.out _).mono ?_
        rintro e w2 ⟨rfl, hb2⟩
        have hz2 := hb2.size
        rw [heap_size_alloc'] at hz2
        have hr2 : Below wr.heap.size wr w2 := ((Below.refl _ wr).alloc (Nat.le_refl _) _).trans (hb2.mono (by simp))
        have HB2 := hidP (HBel.out.trans (hr2.mono hzr))
        have HO2 := hidP (HOw.out.later hr2)
        have c0' := (hr2.cell hzq).trans c0
        have c1' := (hr2.cell hzq).trans c1
        have c2' := (hr2.cell hzq).trans c2
        have c3' := (hr2.cell hzq).trans c3
        have d0' := (hb2.cell (show wr.heap.size < _ by simp)).trans HBx.out.1
        have d1' := (hb2.cell (show wr.heap.size < _ by simp)).trans HBx.out.2.1
        have d2' := (hb2.cell (show wr.heap.size < _ by simp)).trans HBx.out.2.2.1
        have d3' := (hb2.cell (show wr.heap.size < _ by simp)).trans HBx.out.2.2.2
        have hz2' : w.heap.size + 1 ≤ w2.heap.size := by omega
        clear hb2 hr2 c0 c1 c2 c3 d0 d1 d2 d3 HBx
        cases htx : wB t x
        · rw [htx] at HW2
          have HNe := hidP (near_snoc x t xs i HQ.out)
          rw [htx, if_neg (by simp), List.append_nil] at HNe
          go_wp2_with fail
          refine (HW2.out _).mono ?_
          rintro e w3 ⟨rfl, hr3⟩
          have HB3 := hidP (HB2.out.trans (hr3.mono hz2'))
          have HO3 := hidP (HO2.out.later hr3)
          clear hr3
          go_wp2_with fail
          go_roundw
          case rel => exact ⟨i + 1, a7, m7, c7, by omega, by go_num, rfl, by rw [HNe.out]; exact HM7.out, by rw [HNe.out]; exact HO3.out, HAny2.out, HB3.out⟩
          case measure => simp [intOf]; omega
        · rw [htx] at HW2
          have HNe := hidP (near_snoc x t xs i HQ.out)
          rw [htx, if_pos rfl] at HNe
          go_wp2_with fail
          refine (HW2.out _).mono ?_
          rintro e w3 ⟨rfl, hr3⟩
          have HB3 := hidP (HB2.out.trans (hr3.mono hz2'))
          have HO3 := hidP (HO2.out.later hr3)
          have hz3 : w.heap.size + 1 ≤ w3.heap.size := Nat.le_trans hz2' hr3.size
          have d0 := (hr3.cell (show wr.heap.size < w2.heap.size by omega)).trans d0'
          have d1 := (hr3.cell (show wr.heap.size < w2.heap.size by omega)).trans d1'
          have d2 := (hr3.cell (show wr.heap.size < w2.heap.size by omega)).trans d2'
          have d3 := (hr3.cell (show wr.heap.size < w2.heap.size by omega)).trans d3'
          clear hr3 d0' d1' d2' d3' c0' c1' c2' c3'
          go_wp2_with (at_builtin; refine wpList_appR Try.fourS _ rfl (.tmp 24) (.tmp 26) 50 rfl (w.heap.size + 1) a7 m7 c7 1 (((xs.take i).filter (fun t => wB t x)).map Sp.spn) [t.spn] (.slice (some ⟨w3.heap.size, 0, none⟩) 1 1) rfl (by rw [List.length_map]; exact HM7.out) rfl (HO3.out.alloc _) rfl (src_row Try.fourS 1 1 rfl (row_one w3 55 t.spn) (by simp)) (by omega) (by simp; omega) ?_; intro a6 c6 w4 ho4 hg4 ht4)
          go_roundw
          case rel => exact ⟨i + 1, a6, m7 + 1, c6, by omega, by go_num, rfl, by rw [HNe.out, List.length_append, ← HM7.out]; rfl, by rw [HNe.out, List.map_append]; exact ho4, HAny2.out, below_appR (HB3.out.alloc hz3 _) (HO3.out.alloc _) (by simp; omega) hg4⟩
          case measure => simp [intOf]; omega
      · rw [hxt] at HW1
        have HE : Hid (leftM k x xs = []) := by
          refine hidP (left_in ?_)
          rw [List.any_eq_true]
          exact ⟨t, List.mem_of_getElem? HQ.out, hxt⟩
        go_wp2_with fail
        refine (HW1.out _).mono ?_
        rintro e w2 ⟨rfl, hb2⟩
        have hr2 : Below wr.heap.size wr w2 := ((Below.refl _ wr).alloc (Nat.le_refl _) _).trans (hb2.mono (by simp))
        have HB2 := hidP (HBr.out.trans (hr2.mono (by omega)))
        clear hb2 hr2
        go_wp2_with fail
        go_ret
        exact ⟨true, rfl, Ends.none HA.out HJ.out HFit.out HB2.out HE.out⟩
    · have hin : i = n := by omega
      subst hin
      clear hbel
      have eT : xs.take i = xs := by rw [HN.out, List.take_length]
      rw [eT] at HM7 HOw HAny
      clear eT
      by_cases hm0 : m7 = 0
      · have HE : Hid (leftM k x xs = [x]) := hidP (left_all HAny.out (List.eq_nil_of_length_eq_zero (by rw [← HM7.out]; exact hm0)))
        subst hm0
        have HP := hidP (prefix_any x.s x.H x.L k hk9)
        have HY : Hid (∀ W', Below w.heap.size w W' → YieldAt Fence.wide 8 Try.prog l #[.agg #[.bool x.s, .int .i64 x.H.toInt, .int .i64 x.L.toInt, .int .i64 ((wd x.s : Int) - (k : Int))]] W' fun e W2 => ∃ b M', e = .returned (.bool b) ∧ J b (pre ++ [x]) M' W2 ∧ Grw M M' w W2) := hidP fun W' hb => by
          have h := HRn.out 8 pre x M W' (HA.out _ _ _ _ _ HJ.out (Kpt.ofBelow _ hb)) (fun k hk => Nat.lt_of_lt_of_le (HFit.out k hk) hb.size) (by have := HPre.out; rw [HE.out] at this; exact this)
          unfold encP at h
          rw [HK.out] at h
          refine h.mono ?_
          rintro e W2 ⟨b, M', he, hj, hg⟩
          exact ⟨b, M', he, hj, (Grw.ofBelow hb HFit.out).trans hg⟩
        go_wp2_with fail
        gi_wp2
        refine ⟨trivial, (callsIn_wide.2 (HP.out _)).mono ?_⟩
        rintro e w2 ⟨rfl, hb2⟩
        obtain ⟨fn, tmps, assign, body, hy, hRd⟩ := HY.out w2 (HBr.out.trans (hb2.mono HBr.out.size))
        have HRd := hidP hRd
        clear hRd hb2
        gi_wp2
        refine HRd.out.mono ?_
        rintro e w3 ⟨b, M', rfl, hj, hg⟩
        have HF : Hid (Ends J all (pre ++ leftM k x xs) M w w3 b) := by
          refine hidP ⟨pre ++ [x], M', hj, hg, fun _ => by rw [HE.out], fun _ => ?_⟩
          have h := HPre.out
          rw [HE.out] at h
          exact h
        clear hj hg
        gi_wp2
        go_ret
        exact ⟨b, rfl, HF.out⟩
      · have hne : xs.filter (fun t => wB t x) ≠ [] := fun h => hm0 (by rw [HM7.out, h]; rfl)
        obtain ⟨k', rfl⟩ : ∃ k', k = k' + 1 := by
          cases k with
          | zero => exact absurd (near_zero HK.out hne) (by rw [HAny.out]; simp)
          | succ k' => exact ⟨k', rfl⟩
        have HE := hidP (left_two (k := k') HAny.out hne)
        have hx := HX.out
        have hxn := HK.out
        have hlow := low_ok hx hxn
        have hupp := upp_ok hx hxn
        have HH := hidP (halves_any x.s x.H x.L k' hk9)
        have hxs2 : ∀ t ∈ xs.filter (fun t => wB t x), t.ok := fun t ht => HXs.out t (List.mem_filter.1 ht).1
        have IHl := HI.out k' (Nat.lt_succ_self k') (lowS x k') hlow rfl (xs.filter fun t => wB t x) hxs2 (by rw [← HM7.out]; omega)
        have IHu := HI.out k' (Nat.lt_succ_self k') (uppS x k') hupp rfl (xs.filter fun t => wB t x) hxs2 (by rw [← HM7.out]; omega)
        rw [← HM7.out] at IHl IHu
        obtain ⟨l1, hl1⟩ : ∃ l1, l1 = leftM k' (lowS x k') (xs.filter fun t => wB t x) := ⟨_, rfl⟩
        obtain ⟨l2, hl2⟩ : ∃ l2, l2 = leftM k' (uppS x k') (xs.filter fun t => wB t x) := ⟨_, rfl⟩
        rw [← hl1] at IHl HE
        rw [← hl2] at IHu HE
        obtain ⟨H2, hH2⟩ : ∃ H2, H2 = cH k' (fH (k' + 1) x.H) := ⟨_, rfl⟩
        obtain ⟨L2, hL2⟩ : ∃ L2, L2 = cL k' (fL (k' + 1) x.L) := ⟨_, rfl⟩
        rw [← hH2, ← hL2] at HH
        have hp2 : pre ++ (l1 ++ l2) <+: all := by have := HPre.out; rw [HE.out] at this; exact this
        have HIl : Hid (∀ W, Row W a7 ((xs.filter fun t => wB t x).map Sp.spn) → (∀ p o, a7 = some ⟨p, o, none⟩ → ¬ M p) → Below w.heap.size w W → Calls Try.prog 75 #[.agg #[.bool x.s, .int .i64 x.H.toInt, .int .i64 x.L.toInt, .int .i64 (k' : Int)], .slice a7 m7 c7, .func (.yield l) #[] #[]] W fun e w' => ∃ b, e = .returned (.bool b) ∧ Ends J all (pre ++ l1) M W w' b) := hidP fun W h1 h2 h3 =>
          IHl a7 c7 W h1 l all J HA.out HRn.out M h2 (fun k hk => Nat.lt_of_lt_of_le (HFit.out k hk) h3.size) pre (HA.out _ _ _ _ _ HJ.out (Kpt.ofBelow _ h3)) (pre_left hp2)
        have HIu : Hid (∀ W M', Row W a7 ((xs.filter fun t => wB t x).map Sp.spn) → (∀ p o, a7 = some ⟨p, o, none⟩ → ¬ M' p) → (∀ k, M' k → k < W.heap.size) → J true (pre ++ l1) M' W → Calls Try.prog 75 #[.agg #[.bool x.s, .int .i64 H2.toInt, .int .i64 L2.toInt, .int .i64 (k' : Int)], .slice a7 m7 c7, .func (.yield l) #[] #[]] W fun e w' => ∃ b, e = .returned (.bool b) ∧ Ends J all (pre ++ l1 ++ l2) M' W w' b) := hidP fun W M' h1 h2 h3 h4 => by
          have h := IHu a7 c7 W h1 l all J HA.out HRn.out M' h2 h3 (pre ++ l1) h4 (by rw [List.append_assoc]; exact hp2)
          rw [hH2, hL2]; exact h
        have hm1 : (((m7 : Nat) : Int) == 0) = false := by rw [beq_eq_false_iff_ne]; omega
        clear hne hx hxn hlow hupp hxs2 IHl IHu hl1 hl2 hm0 hH2 hL2 hp2
        go_wp2_with fail
        refine wpIn_wide.2 ?_
        go_wp2_with fail
        refine (HH.out _).mono ?_
        rintro e w2 ⟨rfl, hb2'⟩
        have hz2 := hb2'.size
        have HOw2 := hidP (HOw.out.later hb2')
        have HB2 := hidP (HBr.out.trans (hb2'.mono (by omega)))
        clear hb2' HOw HBr c0 c1 c2 c3
        go_wp2_with fail
        obtain ⟨p0, p1, p2, p3⟩ := box_cells w2 55 ⟨x.s, x.H, x.L, (k' : Int)⟩
        obtain ⟨q0, q1, q2, q3⟩ := box_cells (w2.alloc (.cells #[.bool x.s, .int .i64 x.H.toInt, .int .i64 x.L.toInt, .int .i64 (k' : Int)] 55)) 55 ⟨x.s, H2, L2, (k' : Int)⟩
        have hbb : Below w2.heap.size w2 ((w2.alloc (.cells #[.bool x.s, .int .i64 x.H.toInt, .int .i64 x.L.toInt, .int .i64 (k' : Int)] 55)).alloc (.cells #[.bool x.s, .int .i64 H2.toInt, .int .i64 L2.toInt, .int .i64 (k' : Int)] 55)) := ((Below.refl _ w2).alloc (Nat.le_refl _) _).alloc (by simp) _
        have hsz : ((w2.alloc (.cells #[.bool x.s, .int .i64 x.H.toInt, .int .i64 x.L.toInt, .int .i64 (k' : Int)] 55)).alloc (.cells #[.bool x.s, .int .i64 H2.toInt, .int .i64 L2.toInt, .int .i64 (k' : Int)] 55)).heap.size = w2.heap.size + 2 := by simp
        simp only [heap_size_alloc'] at q0 q1 q2 q3
        generalize ((w2.alloc (.cells #[.bool x.s, .int .i64 x.H.toInt, .int .i64 x.L.toInt, .int .i64 (k' : Int)] 55)).alloc (.cells #[.bool x.s, .int .i64 H2.toInt, .int .i64 L2.toInt, .int .i64 (k' : Int)] 55)) = W at *
        have hBW2 := HB2.out.trans (hbb.mono (by omega))
        have hOwW := HOw2.out.later hbb
        have hn9 : ∀ p o, a7 = some ⟨p, o, none⟩ → w.heap.size + 1 ≤ p ∧ p < W.heap.size := fun p o h => hOwW.lt p (by rw [h]; rfl)
        have hnM : ∀ p, w.heap.size ≤ p → ¬ M p := fun p h hm => by have := HFit.out p hm; omega
        refine (HIl.out W hOwW.row (fun p o h => hnM p (by have := hn9 p o h; omega)) hBW2).mono ?_
        rintro e w3 ⟨b, rfl, pre1, M1, hj1, hg1, ht1, hf1⟩
        have nM : ¬ M (w2.heap.size + 1) := hnM _ (by omega)
        have lW : w2.heap.size + 1 < W.heap.size := by omega
        have c0 := (hg1.kept.cell (p := ⟨w2.heap.size + 1, 0, none⟩) lW nM).trans q0
        have c1 := (hg1.kept.cell (p := ⟨w2.heap.size + 1, 1, none⟩) lW nM).trans q1
        have c2 := (hg1.kept.cell (p := ⟨w2.heap.size + 1, 2, none⟩) lW nM).trans q2
        have c3 := (hg1.kept.cell (p := ⟨w2.heap.size + 1, 3, none⟩) lW nM).trans q3
        have lW3 : w2.heap.size + 1 < w3.heap.size := Nat.lt_of_lt_of_le lW hg1.kept.size
        have HG1 := hidP ((Grw.ofBelow hBW2 HFit.out).trans hg1)
        cases b
        · have HF : Hid (Ends J all (pre ++ leftM (k' + 1) x xs) M w w3 false) := hidP ⟨pre1, M1, hj1, HG1.out, fun h => (by cases h), fun _ => hf1 rfl⟩
          clear p0 p1 p2 p3 q0 q1 q2 q3 hbb hsz hBW2 hOwW hn9 hnM hj1 hg1 ht1 hf1 nM lW
          go_wp2_with fail
          go_ret
          exact ⟨false, rfl, HF.out⟩
        · have e1 := ht1 rfl
          subst e1
          have HC : Hid (Calls Try.prog 75 #[.agg #[.bool x.s, .int .i64 H2.toInt, .int .i64 L2.toInt, .int .i64 (k' : Int)], .slice a7 m7 c7, .func (.yield l) #[] #[]] w3 fun e w' => ∃ b, e = .returned (.bool b) ∧ Ends J all (pre ++ leftM (k' + 1) x xs) M w w' b) := by
            refine hidP ((HIu.out w3 M1 (hOwW.row.kpt hg1.kept fun p o h => hnM p (by have := hn9 p o h; omega)) (fun p o h hm => hnM p (by have := hn9 p o h; omega) (hg1.old p hm (hn9 p o h).2)) hg1.fit hj1).mono ?_)
            rintro e w4 ⟨b, rfl, pre2, M2, hj2, hg2, ht2, hf2⟩
            exact ⟨b, rfl, pre2, M2, hj2, HG1.out.trans hg2, fun h => by rw [ht2 h, HE.out, List.append_assoc], hf2⟩
          clear p0 p1 p2 p3 q0 q1 q2 q3 hbb hsz hBW2 hOwW hn9 hnM hj1 hg1 ht1 hf1 nM lW
          go_wp2_with fail
          refine HC.out.mono ?_
          rintro e w4 ⟨b, rfl, h4⟩
          have H4 := hidP h4
          clear h4
          go_wp2_with fail
          go_ret
          exact ⟨b, rfl, H4.out⟩
theorem each_all (k : Nat) : IEach k := Nat.strongRecOn k fun k ih => each_step k ih

end Go.Proofs.Ytgohffeneibhdaa

namespace Go.Proofs.Ytgohffeneibhdaa
open Go.RowKit

theorem below_box {w w2 : World} {o : Obj} (h : Below (w.alloc o).heap.size (w.alloc o) w2) : Below w.heap.size w w2 := ((Below.refl _ w).alloc (Nat.le_refl _) o).trans (h.mono (by simp))

set_option maxHeartbeats 1000000 in
theorem sWithout_no (p : Pf) (a : Option Addr) (cap : Nat) (ps : List Pf) (w : World) (hB : Row w a ps) (hl : ps.length ≤ 1048576) (hno : (p.pok && rightP ps) = false) :
    Calls Try.prog 15 #[.agg #[.bool p.s, .int .i64 p.H.toInt, .int .i64 p.L.toInt, .int .i64 p.b], .slice a ps.length cap] w fun e w' => ∃ a' c', e = .returned (.slice a' 0 c') ∧ OwnR 31 w' w.heap.size (.slice a' 0 c') [] ∧ Below w.heap.size w w' := by
  have HP := hidP (sPrefixOk_any p.s p.H p.L p.b)
  have HR : Hid (∀ (wx : World) (_ : Row wx a ps), Calls Try.prog 33 #[.slice a ps.length cap] wx fun e w' => e = .returned (.bool (rightP ps)) ∧ Below wx.heap.size wx w') := hidP fun wx h => l2Right_any a cap ps wx h hl
  have HB := hidP hB
  obtain ⟨n, hn⟩ : ∃ n, n = ps.length := ⟨_, rfl⟩
  rw [← hn] at hl HR ⊢
  clear hB hn
  cases hpk : pokB p.s p.H p.L p.b
  · rw [hpk] at HP
    go_enter Try.func15, Try.ntmps15
    go_wp2_with fail
    refine (HP.out _).mono ?_
    rintro e w2 ⟨rfl, hb2⟩
    have HB2 := hidP (below_box hb2)
    clear hb2
    go_wp2_with fail
    go_ret
    exact ⟨_, _, rfl, own_zero w2 w.heap.size 31 HB2.out.size, HB2.out.alloc HB2.out.size _⟩
  · rw [hpk] at HP
    have hr : rightP ps = false := by
      have h1 : p.pok = true := hpk
      rw [h1] at hno; simpa using hno
    rw [hr] at HR
    clear hr hno
    go_enter Try.func15, Try.ntmps15
    go_wp2_with fail
    refine (HP.out _).mono ?_
    rintro e w2 ⟨rfl, hb2⟩
    have HB2 := hidP (below_box hb2)
    have HR2 := hidP (HB.out.later HB2.out)
    clear hb2
    go_wp2_with fail
    refine (HR.out _ HR2.out).mono ?_
    rintro e w3 ⟨rfl, hb3⟩
    have HB3 := hidP (HB2.out.trans (hb3.mono HB2.out.size))
    clear hb3
    go_wp2_with fail
    go_ret
    exact ⟨_, _, rfl, own_zero w3 w.heap.size 31 HB3.out.size, HB3.out.alloc HB3.out.size _⟩

theorem right_pre (xs : List Sp) (hxs : ∀ t ∈ xs, t.ok) (hl : xs.length ≤ 300) : rightP (xs.map Sp.pre) = true := by
  unfold rightP
  rw [List.length_map, decide_eq_true hl, Bool.and_true, List.all_eq_true]
  intro p hp
  obtain ⟨t, ht, rfl⟩ := List.mem_map.1 hp
  exact (hxs t ht).pok

set_option maxRecDepth 10000 in
set_option maxHeartbeats 1000000 in
theorem sWithout_yes (x : Sp) (hx : x.ok) (a : Option Addr) (cap : Nat) (xs : List Sp) (hxs : ∀ t ∈ xs, t.ok) (w : World) (hB : Row w a (xs.map Sp.pre)) (hl : xs.length ≤ 300) :
    Calls Try.prog 15 #[.agg #[.bool x.s, .int .i64 x.H.toInt, .int .i64 x.L.toInt, .int .i64 ((wd x.s : Int) - (x.n : Int))], .slice a xs.length cap] w fun e w' => ∃ a' c', e = .returned (.slice a' (leftM x.n x xs).length c') ∧ OwnR 31 w' w.heap.size (.slice a' (leftM x.n x xs).length c') ((leftM x.n x xs).map Sp.pre) ∧ Below w.heap.size w w' := by
  have hp := sPrefixOk_any x.s x.H x.L ((wd x.s : Int) - (x.n : Int))
  rw [hx.pok] at hp
  have HP := hidP hp
  have HR : Hid (∀ (wx : World) (_ : Row wx a (xs.map Sp.pre)), Calls Try.prog 33 #[.slice a xs.length cap] wx fun e w' => e = .returned (.bool true) ∧ Below wx.heap.size wx w') := hidP fun wx h => by
    have h1 := l2Right_any a cap (xs.map Sp.pre) wx h (by rw [List.length_map]; omega)
    have h2 := right_pre xs hxs hl
    unfold rightP at h2
    change ((xs.map Sp.pre).all (fun p => pokB p.s p.H p.L p.b) && decide ((xs.map Sp.pre).length ≤ 300)) = true at h2
    rw [h2, List.length_map] at h1
    exact h1
  have HL : Hid (∀ (wx : World) (_ : Row wx a (xs.map Sp.pre)), _) := hidP fun wx h => l2Left_all x.n x hx rfl xs hxs hl a cap wx h
  have HB := hidP hB
  obtain ⟨l, hl'⟩ : ∃ l, l = leftM x.n x xs := ⟨_, rfl⟩
  rw [← hl'] at HL ⊢
  obtain ⟨n, hn⟩ : ∃ n, n = xs.length := ⟨_, rfl⟩
  rw [← hn] at hl HR HL ⊢
  clear hB hn hx hxs hp hl'
  have HBx := hidP (box_cells w 31 ⟨x.s, x.H, x.L, (wd x.s : Int) - (x.n : Int)⟩)
  go_enter Try.func15, Try.ntmps15
  go_wp2_with fail
  refine (HP.out _).mono ?_
  rintro e w2 ⟨rfl, hb2⟩
  have HB2 := hidP (below_box hb2)
  have HR2 := hidP (HB.out.later HB2.out)
  have HBd := hidP hb2
  have hz2 := hb2.size
  rw [heap_size_alloc'] at hz2
  clear hb2
  go_wp2_with fail
  refine (HR.out _ HR2.out).mono ?_
  rintro e w3 ⟨rfl, hb3⟩
  have HB3 := hidP (HB2.out.trans (hb3.mono HB2.out.size))
  have HR3 := hidP (HR2.out.later hb3)
  have d0 := (hb3.cell (show w.heap.size < w2.heap.size by omega)).trans ((HBd.out.cell (show w.heap.size < _ by simp)).trans HBx.out.1)
  have d1 := (hb3.cell (show w.heap.size < w2.heap.size by omega)).trans ((HBd.out.cell (show w.heap.size < _ by simp)).trans HBx.out.2.1)
  have d2 := (hb3.cell (show w.heap.size < w2.heap.size by omega)).trans ((HBd.out.cell (show w.heap.size < _ by simp)).trans HBx.out.2.2.1)
  have d3 := (hb3.cell (show w.heap.size < w2.heap.size by omega)).trans ((HBd.out.cell (show w.heap.size < _ by simp)).trans HBx.out.2.2.2)
  clear hb3
  go_wp2_with fail
  refine (HL.out _ HR3.out).mono ?_
  rintro e w4 ⟨a4, c4, rfl, ho4, hb4⟩
  have HO4 := hidP (ho4.mono HB3.out.size)
  have HB4 := hidP (HB3.out.trans (hb4.mono HB3.out.size))
  clear ho4 hb4
  go_wp2_with fail
  go_ret
  exact ⟨_, _, rfl, HO4.out, HB4.out⟩

theorem spansOf_res (a : Option Addr) (cap : Nat) (ps : List Pf) (w : World) (hB : Row w a ps) (hl : ps.length ≤ 1048576) :
    Calls Try.prog 28 #[.slice a ps.length cap] w fun e w' => ∃ a' n' c', e = .returned (.tuple #[.slice a' n' c', .bool (rightP ps)]) ∧ Below w.heap.size w w' := by
  by_cases h : ps.length ≤ 300
  · refine (spansOf_short a cap ps w hB h).mono ?_
    rintro e w' ⟨h1 | h1, hb⟩
    · obtain ⟨h1, g, rfl, _⟩ := h1
      exact ⟨_, _, _, by unfold rightP; rw [h1, decide_eq_true h]; rfl, hb⟩
    · obtain ⟨h1, rfl⟩ := h1
      exact ⟨_, _, _, by unfold rightP; rw [h1]; rfl, hb⟩
  · refine (spansOf_long a ps.length cap w (by omega) hl).mono ?_
    rintro e w' ⟨rfl, hb⟩
    exact ⟨_, _, _, by unfold rightP; rw [decide_eq_false h, Bool.and_false], hb⟩

theorem sp_pre (xs : List Sp) : (xs.map Sp.pre).map Pf.sp = xs.map Sp.spn := by
  rw [List.map_map]
  refine List.map_congr_left fun x _ => ?_
  show (⟨x.s, x.H, x.L, (wd x.s : Int) - ((wd x.s : Int) - x.n)⟩ : Pf) = ⟨x.s, x.H, x.L, x.n⟩
  congr 1
  omega
theorem grown_none {w w' : World} (h : w.grownBy w' none) : Below w.heap.size w w' := ⟨h.os, h.tape, h.output, h.size, fun k hk => h.block k hk (by simp)⟩
theorem left_ok : ∀ (k : Nat) (x : Sp) (l : List Sp), x.ok → x.n = k → ∀ t ∈ leftM k x l, t.ok
  | 0, x, l, hx, _, t, ht => by
      unfold leftM at ht
      split at ht
      · cases ht
      · rw [List.mem_singleton] at ht; subst ht; exact hx
  | k + 1, x, l, hx, hn, t, ht => by
      unfold leftM at ht
      split at ht
      · cases ht
      · split at ht
        · rw [List.mem_singleton] at ht; subst ht; exact hx
        · rcases List.mem_append.1 ht with h | h
          · exact left_ok k (lowS x k) _ (low_ok hx hn) rfl t h
          · exact left_ok k (uppS x k) _ (upp_ok hx hn) rfl t h

end Go.Proofs.Ytgohffeneibhdaa
