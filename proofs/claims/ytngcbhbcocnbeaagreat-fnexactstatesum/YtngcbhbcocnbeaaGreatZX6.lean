/-
  What putSum_both needs, part 6.
-/
import Derived.Test.YtngcbhbcocnbeaaGreatZX5
import Derived.Deep.RegionWith
import Derived.Deep.RegionHeld3
namespace Go.Proofs.YtngcbhbcocnbeaaGreat
open Go.RowKit

theorem hasTok_step {k : Int} {ls : List Ls} {j : Nat} {r : Ls} (h : ls[j]? = some r) (h0 : hasTok k (ls.take j) = false) (hr : (r.k == k) = false) : hasTok k (ls.take (j + 1)) = false := by
  rw [← take_at h]
  unfold hasTok at *
  rw [List.any_append, h0]
  simp [hr]
theorem hasTok_yes {k : Int} {ls : List Ls} {i j : Nat} {r : Ls} (h : ls[j]? = some r) (hij : j < i) (hr : (r.k == k) = true) : hasTok k (ls.take i) = true := by
  unfold hasTok
  rw [List.any_eq_true]
  exact ⟨r, List.mem_of_getElem? (i := j) (by rw [List.getElem?_take_of_lt hij]; exact h), hr⟩
theorem okLs_cut (T N : Int) (q : Ls) : okLs T N q = ((okB q.a.s q.a.H.toInt q.a.L.toInt && ownB q.t) && ((decide (1 ≤ q.k) && decide (q.k ≤ T)) && (decide (N + 1 ≤ q.u) && decide (q.u ≤ 1000000000)))) := rfl

set_option maxRecDepth 10000 in
set_option maxHeartbeats 8000000 in
theorem sBookOk_in (a : Option Addr) (n c : Nat) (T N : Int) (ls : List Ls) (w : World) (hn : n = ls.length) (hB : RowG KLs w a ls) (hl : n ≤ 80) (hst : ∀ q ∈ ls, q.t.size ≤ 9223372036854775807) (hT : (decide (0 ≤ T) && decide (T ≤ 1000000000)) = true) (hN : (decide (0 ≤ N) && decide (N ≤ 1000000000)) = true) :
    Calls Tryz.prog 53 #[.agg #[.slice a n c, .int .i64 T, .int .i64 N]] w fun e w' => e = .returned (.bool (leasesS T N [] ls)) ∧ Below w.heap.size w w' := by
  have HB := hidP (fun W h => hB.later (w' := W) h)
  have HN := hidP hn
  have HST := hidP hst
  have HT := hidP (l1InO_r T 0 1000000000 true hT)
  have HNn := hidP (l1InO_r N 0 1000000000 true hN)
  have hN2 : 0 ≤ N ∧ N ≤ 1000000000 := by simpa using hN
  have wN : IntKind.i64.wrap (N + 1) = N + 1 := by rw [IntKind.wrap_i64]; omega
  have g80 : decide ((80 : Int) < (n : Int)) = false := decide_eq_false (by omega)
  have g80' : decide (80 < n) = false := decide_eq_false (by omega)
  clear hB hn hst hT hN hN2
  go_enter Tryz.func53, Tryz.ntmps53
  go_wp2_with fail
  obtain ⟨b0, b1, b2⟩ := box3B w 43 (.slice a n c) (.int .i64 T) (.int .i64 N)
  have bB := alloc_below w (.cells #[.slice a n c, .int .i64 T, .int .i64 N] 43)
  have bL := alloc_lt w (.cells #[.slice a n c, .int .i64 T, .int .i64 N] 43)
  have bS : (w.alloc (.cells #[.slice a n c, .int .i64 T, .int .i64 N] 43)).heap.size = w.heap.size + 1 := by simp
  generalize w.alloc (.cells #[.slice a n c, .int .i64 T, .int .i64 N] 43) = W1 at *
  have HR := hidP (HB.out _ bB)
  have HU := hidP bB
  clear bB HB
  refine (HT.out _).mono ?_
  rintro e w' ⟨rfl, hw'⟩
  rw [hw']
  clear hw' w'
  go_wp2_with fail
  refine (HNn.out _).mono ?_
  rintro e w' ⟨rfl, hw'⟩
  rw [hw']
  clear hw' w'
  go_wp2_with fail
  go_loopw [3, 4, 5] (fun t3 _ _ wr => ∃ k : Nat, k ≤ n ∧ t3 = .int .i64 k ∧ leasesS T N [] ls = leasesS T N (ls.take k) (ls.drop k) ∧ (∀ r, prvL ls k = some r → r.ok = true) ∧ Below W1.heap.size W1 wr) (fun t3 _ _ _ => n - (intOf t3).toNat)
  case atStart => exact ⟨0, Nat.zero_le _, rfl, rfl, (fun r h => by cases h), Below.refl _ _⟩
  case round =>
    obtain ⟨WR, rfl⟩ : ∃ WR, WR = wr := ⟨_, rfl⟩
    obtain ⟨k, hk, rfl, hpo, hpr, hbel⟩ := hrel
    have B0 := (hbel.cell bL).trans b0
    have B1 := (hbel.cell bL).trans b1
    have B2 := (hbel.cell bL).trans b2
    have BL : w.heap.size < WR.heap.size := Nat.lt_of_lt_of_le bL hbel.size
    by_cases hlt : k < n
    · obtain ⟨p, o, q, rfl, hp, hq, c0, c1, c2, c3, c4, c5⟩ := rowLs HR.out k (by rw [← HN.out]; exact hlt)
      have d0 := (hbel.cell hp).trans c0
      have d1 := (hbel.cell hp).trans c1
      have d2 := (hbel.cell hp).trans c2
      have d3 := (hbel.cell hp).trans c3
      have d4 := (hbel.cell hp).trans c4
      have d5 := (hbel.cell hp).trans c5
      have hpw : p < WR.heap.size := Nat.lt_of_lt_of_le hp hbel.size
      rw [drop_at hq] at hpo
      have hpo' : leasesS T N [] ls = ((okLs T N q && ascA (((ls.take k).getLast?).map (·.a)) q.a) && (!hasTok q.k (ls.take k) && leasesS T N (ls.take k ++ [q]) (ls.drop (k + 1)))) := hpo
      rw [prvL_last ls k (by have := HN.out; omega), take_at hq] at hpo'
      have HNx := hidP (prvL_next hq)
      have HPr := hidP hpr
      have HBel := hidP hbel
      have HAd := hidP (sAddrOk_any q.a.s q.a.H.toInt q.a.L.toInt)
      have HOw := hidP (fun w => sOwnerOk_any q.t w (HST.out q (List.mem_of_getElem? hq)))
      have HI1 := hidP (l1InO_any q.k 1 T)
      have HI2 := hidP (l1InO_any q.u (N + 1) 1000000000)
      have HOk : Hid (okLs T N q = true → q.a.ok = true) := hidP okLs_ok
      rw [okLs_cut] at hpo' HOk
      have hAok : q.a.ok = okB q.a.s q.a.H.toInt q.a.L.toInt := rfl
      have HPo := hidP hpo'
      have HRow : Hid (ls[k]? = some q) := hidP hq
      clear c0 c1 c2 c3 c4 c5 hq hpo hpo' hpr hbel b0 b1 b2
      generalize okB q.a.s q.a.H.toInt q.a.L.toInt = A at *
      generalize ownB q.t = O at *
      generalize (decide (1 ≤ q.k) && decide (q.k ≤ T)) = K1 at *
      generalize (decide (N + 1 ≤ q.u) && decide (q.u ≤ 1000000000)) = K2 at *
      cases A
      · have HF : Hid (leasesS T N [] ls = false) := hidP (by rw [HPo.out]; rfl)
        clear HPo
        go_wp2_with fail
        obtain ⟨x0, x1, x2, x3, x4, x5⟩ := boxLs (q := q) WR 74
        have xB := alloc_below WR (.cells #[.bool q.a.s, .int .i64 q.a.H.toInt, .int .i64 q.a.L.toInt, .string q.t, .int .i64 q.k, .int .i64 q.u] 74)
        have xL := alloc_lt WR (.cells #[.bool q.a.s, .int .i64 q.a.H.toInt, .int .i64 q.a.L.toInt, .string q.t, .int .i64 q.k, .int .i64 q.u] 74)
        have xS : (WR.alloc (.cells #[.bool q.a.s, .int .i64 q.a.H.toInt, .int .i64 q.a.L.toInt, .string q.t, .int .i64 q.k, .int .i64 q.u] 74)).heap.size = WR.heap.size + 1 := by simp
        generalize WR.alloc (.cells #[.bool q.a.s, .int .i64 q.a.H.toInt, .int .i64 q.a.L.toInt, .string q.t, .int .i64 q.k, .int .i64 q.u] 74) = W2 at *
        have D0 := (xB.cell BL).trans B0
        have D1 := (xB.cell BL).trans B1
        have D2 := (xB.cell BL).trans B2
        have DL : w.heap.size < W2.heap.size := Nat.lt_of_lt_of_le BL xB.size
        have HXB := hidP xB
        clear xS
        clear xB
        have HSx : Hid (∀ x, Below W2.heap.size W2 x → (x.cell? ⟨w.heap.size, 0, none⟩ = some (.slice (some ⟨p, o, none⟩) n c) ∧ x.cell? ⟨w.heap.size, 1, none⟩ = some (.int .i64 T) ∧ x.cell? ⟨w.heap.size, 2, none⟩ = some (.int .i64 N) ∧ x.cell? ⟨WR.heap.size, 0, none⟩ = some (.bool q.a.s) ∧ x.cell? ⟨WR.heap.size, 1, none⟩ = some (.int .i64 q.a.H.toInt) ∧ x.cell? ⟨WR.heap.size, 2, none⟩ = some (.int .i64 q.a.L.toInt) ∧ x.cell? ⟨WR.heap.size, 3, none⟩ = some (.string q.t) ∧ x.cell? ⟨WR.heap.size, 4, none⟩ = some (.int .i64 q.k) ∧ x.cell? ⟨WR.heap.size, 5, none⟩ = some (.int .i64 q.u) ∧ Below W2.heap.size W2 x)) := hidP fun x h =>
          ⟨(h.cell DL).trans D0, (h.cell DL).trans D1, (h.cell DL).trans D2, (h.cell xL).trans x0, (h.cell xL).trans x1, (h.cell xL).trans x2, (h.cell xL).trans x3, (h.cell xL).trans x4, (h.cell xL).trans x5, h⟩
        refine wp_region_held_drew (S := (fun x => x.cell? ⟨w.heap.size, 0, none⟩ = some (.slice (some ⟨p, o, none⟩) n c) ∧ x.cell? ⟨w.heap.size, 1, none⟩ = some (.int .i64 T) ∧ x.cell? ⟨w.heap.size, 2, none⟩ = some (.int .i64 N) ∧ x.cell? ⟨WR.heap.size, 0, none⟩ = some (.bool q.a.s) ∧ x.cell? ⟨WR.heap.size, 1, none⟩ = some (.int .i64 q.a.H.toInt) ∧ x.cell? ⟨WR.heap.size, 2, none⟩ = some (.int .i64 q.a.L.toInt) ∧ x.cell? ⟨WR.heap.size, 3, none⟩ = some (.string q.t) ∧ x.cell? ⟨WR.heap.size, 4, none⟩ = some (.int .i64 q.k) ∧ x.cell? ⟨WR.heap.size, 5, none⟩ = some (.int .i64 q.u) ∧ Below W2.heap.size W2 x)) (by kernel_rfl) ?_ (fun hHeld => ?_)
        · try dsimp only
          exact HSx.out _ ((Below.refl _ _).drew)
        refine tk 0 34 rfl ?_; simp only [pa]
        refine tk 1 35 rfl ?_; simp only [pa]
        refine wpAnyH_ready (rs := [2]) (by kernel_rfl) (by simp) ?_
        refine AllReadyH.cons rfl (fun K hK => ?_) AllReadyH.nil
        go_simp
        go_wp2_with (first | (go_at_call 56; refine (HAd.out _).mono ?_; rintro e w2 ⟨rfl, hb2⟩; have b2 := (hHeld.2.2.2.2.2.2.2.2.2).trans (hb2.mono (hHeld.2.2.2.2.2.2.2.2.2).size)))
        refine hK.out _ _ ?_ (fun hHeld => ?_)
        · try dsimp only
          exact HSx.out _ b2
        clear hK K
        refine tk 3 37 rfl ?_; simp only [pa]
        refine tk 4 38 rfl ?_; simp only [pa]
        refine sk 5 39 rfl ?_; simp only [pa]
        refine sk 6 40 rfl ?_; simp only [pa]
        refine sk 7 41 rfl ?_; simp only [pa]
        refine sk 8 42 rfl ?_; simp only [pa]
        refine tk 9 43 rfl ?_; simp only [pa]
        refine tk 10 44 rfl ?_; simp only [pa]
        refine sk 11 45 rfl ?_; simp only [pa]
        refine sk 12 46 rfl ?_; simp only [pa]
        refine sk 13 47 rfl ?_; simp only [pa]
        refine sk 14 48 rfl ?_; simp only [pa]
        refine sk 15 49 rfl ?_; simp only [pa]
        refine sk 16 50 rfl ?_; simp only [pa]
        refine tk 17 51 rfl ?_; simp only [pa]
        refine tk 18 52 rfl ?_; simp only [pa]
        refine sk 19 53 rfl ?_; simp only [pa]
        refine sk 20 54 rfl ?_; simp only [pa]
        refine sk 21 55 rfl ?_; simp only [pa]
        refine sk 22 56 rfl ?_; simp only [pa]
        refine sk 23 57 rfl ?_; simp only [pa]
        refine sk 24 58 rfl ?_; simp only [pa]
        refine sk 25 59 rfl ?_; simp only [pa]
        refine tk 26 60 rfl ?_; simp only [pa]
        refine tk 27 61 rfl ?_; simp only [pa]
        refine sk 28 62 rfl ?_; simp only [pa]
        refine sk 29 63 rfl ?_; simp only [pa]
        refine sk 30 64 rfl ?_; simp only [pa]
        refine sk 31 65 rfl ?_; simp only [pa]
        refine sk 32 66 rfl ?_; simp only [pa]
        refine sk 33 67 rfl ?_; simp only [pa]
        refine sk 34 68 rfl ?_; simp only [pa]
        refine sk 35 69 rfl ?_; simp only [pa]
        refine sk 36 70 rfl ?_; simp only [pa]
        refine sk 37 71 rfl ?_; simp only [pa]
        refine sk 38 72 rfl ?_; simp only [pa]
        refine sk 39 73 rfl ?_; simp only [pa]
        refine sk 40 74 rfl ?_; simp only [pa]
        refine sk 41 75 rfl ?_; simp only [pa]
        refine sk 42 76 rfl ?_; simp only [pa]
        refine tk 43 77 rfl ?_; simp only [pa]
        have HE := hidP (hHeld.2.2.2.2.2.2.2.2.2)
        refine wpAnyH_done (by kernel_rfl) ?_ _
        clear hHeld
        go_wp2_with fail
        go_ret
        exact ⟨ret_b HF.out.symm, HU.out.trans ((below_box HBel.out HBel.out.size HXB.out HE.out).mono HU.out.size)⟩
      · cases O
        · have HF : Hid (leasesS T N [] ls = false) := hidP (by rw [HPo.out]; rfl)
          clear HPo
          go_wp2_with fail
          obtain ⟨x0, x1, x2, x3, x4, x5⟩ := boxLs (q := q) WR 74
          have xB := alloc_below WR (.cells #[.bool q.a.s, .int .i64 q.a.H.toInt, .int .i64 q.a.L.toInt, .string q.t, .int .i64 q.k, .int .i64 q.u] 74)
          have xL := alloc_lt WR (.cells #[.bool q.a.s, .int .i64 q.a.H.toInt, .int .i64 q.a.L.toInt, .string q.t, .int .i64 q.k, .int .i64 q.u] 74)
          have xS : (WR.alloc (.cells #[.bool q.a.s, .int .i64 q.a.H.toInt, .int .i64 q.a.L.toInt, .string q.t, .int .i64 q.k, .int .i64 q.u] 74)).heap.size = WR.heap.size + 1 := by simp
          generalize WR.alloc (.cells #[.bool q.a.s, .int .i64 q.a.H.toInt, .int .i64 q.a.L.toInt, .string q.t, .int .i64 q.k, .int .i64 q.u] 74) = W2 at *
          have D0 := (xB.cell BL).trans B0
          have D1 := (xB.cell BL).trans B1
          have D2 := (xB.cell BL).trans B2
          have DL : w.heap.size < W2.heap.size := Nat.lt_of_lt_of_le BL xB.size
          have HXB := hidP xB
          clear xS
          clear xB
          have HSx : Hid (∀ x, Below W2.heap.size W2 x → (x.cell? ⟨w.heap.size, 0, none⟩ = some (.slice (some ⟨p, o, none⟩) n c) ∧ x.cell? ⟨w.heap.size, 1, none⟩ = some (.int .i64 T) ∧ x.cell? ⟨w.heap.size, 2, none⟩ = some (.int .i64 N) ∧ x.cell? ⟨WR.heap.size, 0, none⟩ = some (.bool q.a.s) ∧ x.cell? ⟨WR.heap.size, 1, none⟩ = some (.int .i64 q.a.H.toInt) ∧ x.cell? ⟨WR.heap.size, 2, none⟩ = some (.int .i64 q.a.L.toInt) ∧ x.cell? ⟨WR.heap.size, 3, none⟩ = some (.string q.t) ∧ x.cell? ⟨WR.heap.size, 4, none⟩ = some (.int .i64 q.k) ∧ x.cell? ⟨WR.heap.size, 5, none⟩ = some (.int .i64 q.u) ∧ Below W2.heap.size W2 x)) := hidP fun x h =>
            ⟨(h.cell DL).trans D0, (h.cell DL).trans D1, (h.cell DL).trans D2, (h.cell xL).trans x0, (h.cell xL).trans x1, (h.cell xL).trans x2, (h.cell xL).trans x3, (h.cell xL).trans x4, (h.cell xL).trans x5, h⟩
          refine wp_region_held_drew (S := (fun x => x.cell? ⟨w.heap.size, 0, none⟩ = some (.slice (some ⟨p, o, none⟩) n c) ∧ x.cell? ⟨w.heap.size, 1, none⟩ = some (.int .i64 T) ∧ x.cell? ⟨w.heap.size, 2, none⟩ = some (.int .i64 N) ∧ x.cell? ⟨WR.heap.size, 0, none⟩ = some (.bool q.a.s) ∧ x.cell? ⟨WR.heap.size, 1, none⟩ = some (.int .i64 q.a.H.toInt) ∧ x.cell? ⟨WR.heap.size, 2, none⟩ = some (.int .i64 q.a.L.toInt) ∧ x.cell? ⟨WR.heap.size, 3, none⟩ = some (.string q.t) ∧ x.cell? ⟨WR.heap.size, 4, none⟩ = some (.int .i64 q.k) ∧ x.cell? ⟨WR.heap.size, 5, none⟩ = some (.int .i64 q.u) ∧ Below W2.heap.size W2 x)) (by kernel_rfl) ?_ (fun hHeld => ?_)
          · try dsimp only
            exact HSx.out _ ((Below.refl _ _).drew)
          refine tk 0 34 rfl ?_; simp only [pa]
          refine tk 1 35 rfl ?_; simp only [pa]
          refine wpAnyH_ready (rs := [2]) (by kernel_rfl) (by simp) ?_
          refine AllReadyH.cons rfl (fun K hK => ?_) AllReadyH.nil
          go_simp
          go_wp2_with (first | (go_at_call 56; refine (HAd.out _).mono ?_; rintro e w2 ⟨rfl, hb2⟩; have b2 := (hHeld.2.2.2.2.2.2.2.2.2).trans (hb2.mono (hHeld.2.2.2.2.2.2.2.2.2).size)))
          refine hK.out _ _ ?_ (fun hHeld => ?_)
          · try dsimp only
            exact HSx.out _ b2
          clear hK K
          refine tk 3 37 rfl ?_; simp only [pa]
          refine tk 4 38 rfl ?_; simp only [pa]
          refine tk 5 39 rfl ?_; simp only [pa]
          refine tk 6 40 rfl ?_; simp only [pa]
          refine wpAnyH_ready (rs := [7]) (by kernel_rfl) (by simp) ?_
          refine AllReadyH.cons rfl (fun K hK => ?_) AllReadyH.nil
          go_simp
          go_wp2_with (first | (go_at_call 86; refine (HOw.out _).mono ?_; rintro e w' ⟨rfl, rfl⟩))
          refine hK.out _ _ ?_ (fun hHeld => ?_)
          · try dsimp only
            exact HSx.out _ (hHeld.2.2.2.2.2.2.2.2.2)
          clear hK K
          refine tk 8 42 rfl ?_; simp only [pa]
          refine tk 9 43 rfl ?_; simp only [pa]
          refine tk 10 44 rfl ?_; simp only [pa]
          refine sk 11 45 rfl ?_; simp only [pa]
          refine sk 12 46 rfl ?_; simp only [pa]
          refine sk 13 47 rfl ?_; simp only [pa]
          refine sk 14 48 rfl ?_; simp only [pa]
          refine sk 15 49 rfl ?_; simp only [pa]
          refine sk 16 50 rfl ?_; simp only [pa]
          refine tk 17 51 rfl ?_; simp only [pa]
          refine tk 18 52 rfl ?_; simp only [pa]
          refine sk 19 53 rfl ?_; simp only [pa]
          refine sk 20 54 rfl ?_; simp only [pa]
          refine sk 21 55 rfl ?_; simp only [pa]
          refine sk 22 56 rfl ?_; simp only [pa]
          refine sk 23 57 rfl ?_; simp only [pa]
          refine sk 24 58 rfl ?_; simp only [pa]
          refine sk 25 59 rfl ?_; simp only [pa]
          refine tk 26 60 rfl ?_; simp only [pa]
          refine tk 27 61 rfl ?_; simp only [pa]
          refine sk 28 62 rfl ?_; simp only [pa]
          refine sk 29 63 rfl ?_; simp only [pa]
          refine sk 30 64 rfl ?_; simp only [pa]
          refine sk 31 65 rfl ?_; simp only [pa]
          refine sk 32 66 rfl ?_; simp only [pa]
          refine sk 33 67 rfl ?_; simp only [pa]
          refine sk 34 68 rfl ?_; simp only [pa]
          refine sk 35 69 rfl ?_; simp only [pa]
          refine sk 36 70 rfl ?_; simp only [pa]
          refine sk 37 71 rfl ?_; simp only [pa]
          refine sk 38 72 rfl ?_; simp only [pa]
          refine sk 39 73 rfl ?_; simp only [pa]
          refine sk 40 74 rfl ?_; simp only [pa]
          refine sk 41 75 rfl ?_; simp only [pa]
          refine sk 42 76 rfl ?_; simp only [pa]
          refine tk 43 77 rfl ?_; simp only [pa]
          have HE := hidP (hHeld.2.2.2.2.2.2.2.2.2)
          refine wpAnyH_done (by kernel_rfl) ?_ _
          clear hHeld
          go_wp2_with fail
          go_ret
          exact ⟨ret_b HF.out.symm, HU.out.trans ((below_box HBel.out HBel.out.size HXB.out HE.out).mono HU.out.size)⟩
        · cases K1
          · have HF : Hid (leasesS T N [] ls = false) := hidP (by rw [HPo.out]; rfl)
            clear HPo
            go_wp2_with fail
            obtain ⟨x0, x1, x2, x3, x4, x5⟩ := boxLs (q := q) WR 74
            have xB := alloc_below WR (.cells #[.bool q.a.s, .int .i64 q.a.H.toInt, .int .i64 q.a.L.toInt, .string q.t, .int .i64 q.k, .int .i64 q.u] 74)
            have xL := alloc_lt WR (.cells #[.bool q.a.s, .int .i64 q.a.H.toInt, .int .i64 q.a.L.toInt, .string q.t, .int .i64 q.k, .int .i64 q.u] 74)
            have xS : (WR.alloc (.cells #[.bool q.a.s, .int .i64 q.a.H.toInt, .int .i64 q.a.L.toInt, .string q.t, .int .i64 q.k, .int .i64 q.u] 74)).heap.size = WR.heap.size + 1 := by simp
            generalize WR.alloc (.cells #[.bool q.a.s, .int .i64 q.a.H.toInt, .int .i64 q.a.L.toInt, .string q.t, .int .i64 q.k, .int .i64 q.u] 74) = W2 at *
            have D0 := (xB.cell BL).trans B0
            have D1 := (xB.cell BL).trans B1
            have D2 := (xB.cell BL).trans B2
            have DL : w.heap.size < W2.heap.size := Nat.lt_of_lt_of_le BL xB.size
            have HXB := hidP xB
            clear xS
            clear xB
            have HSx : Hid (∀ x, Below W2.heap.size W2 x → (x.cell? ⟨w.heap.size, 0, none⟩ = some (.slice (some ⟨p, o, none⟩) n c) ∧ x.cell? ⟨w.heap.size, 1, none⟩ = some (.int .i64 T) ∧ x.cell? ⟨w.heap.size, 2, none⟩ = some (.int .i64 N) ∧ x.cell? ⟨WR.heap.size, 0, none⟩ = some (.bool q.a.s) ∧ x.cell? ⟨WR.heap.size, 1, none⟩ = some (.int .i64 q.a.H.toInt) ∧ x.cell? ⟨WR.heap.size, 2, none⟩ = some (.int .i64 q.a.L.toInt) ∧ x.cell? ⟨WR.heap.size, 3, none⟩ = some (.string q.t) ∧ x.cell? ⟨WR.heap.size, 4, none⟩ = some (.int .i64 q.k) ∧ x.cell? ⟨WR.heap.size, 5, none⟩ = some (.int .i64 q.u) ∧ Below W2.heap.size W2 x)) := hidP fun x h =>
              ⟨(h.cell DL).trans D0, (h.cell DL).trans D1, (h.cell DL).trans D2, (h.cell xL).trans x0, (h.cell xL).trans x1, (h.cell xL).trans x2, (h.cell xL).trans x3, (h.cell xL).trans x4, (h.cell xL).trans x5, h⟩
            refine wp_region_held_drew (S := (fun x => x.cell? ⟨w.heap.size, 0, none⟩ = some (.slice (some ⟨p, o, none⟩) n c) ∧ x.cell? ⟨w.heap.size, 1, none⟩ = some (.int .i64 T) ∧ x.cell? ⟨w.heap.size, 2, none⟩ = some (.int .i64 N) ∧ x.cell? ⟨WR.heap.size, 0, none⟩ = some (.bool q.a.s) ∧ x.cell? ⟨WR.heap.size, 1, none⟩ = some (.int .i64 q.a.H.toInt) ∧ x.cell? ⟨WR.heap.size, 2, none⟩ = some (.int .i64 q.a.L.toInt) ∧ x.cell? ⟨WR.heap.size, 3, none⟩ = some (.string q.t) ∧ x.cell? ⟨WR.heap.size, 4, none⟩ = some (.int .i64 q.k) ∧ x.cell? ⟨WR.heap.size, 5, none⟩ = some (.int .i64 q.u) ∧ Below W2.heap.size W2 x)) (by kernel_rfl) ?_ (fun hHeld => ?_)
            · try dsimp only
              exact HSx.out _ ((Below.refl _ _).drew)
            refine tk 0 34 rfl ?_; simp only [pa]
            refine tk 1 35 rfl ?_; simp only [pa]
            refine wpAnyH_ready (rs := [2]) (by kernel_rfl) (by simp) ?_
            refine AllReadyH.cons rfl (fun K hK => ?_) AllReadyH.nil
            go_simp
            go_wp2_with (first | (go_at_call 56; refine (HAd.out _).mono ?_; rintro e w2 ⟨rfl, hb2⟩; have b2 := (hHeld.2.2.2.2.2.2.2.2.2).trans (hb2.mono (hHeld.2.2.2.2.2.2.2.2.2).size)))
            refine hK.out _ _ ?_ (fun hHeld => ?_)
            · try dsimp only
              exact HSx.out _ b2
            clear hK K
            refine tk 3 37 rfl ?_; simp only [pa]
            refine tk 4 38 rfl ?_; simp only [pa]
            refine tk 5 39 rfl ?_; simp only [pa]
            refine tk 6 40 rfl ?_; simp only [pa]
            refine wpAnyH_ready (rs := [7]) (by kernel_rfl) (by simp) ?_
            refine AllReadyH.cons rfl (fun K hK => ?_) AllReadyH.nil
            go_simp
            go_wp2_with (first | (go_at_call 86; refine (HOw.out _).mono ?_; rintro e w' ⟨rfl, rfl⟩))
            refine hK.out _ _ ?_ (fun hHeld => ?_)
            · try dsimp only
              exact HSx.out _ (hHeld.2.2.2.2.2.2.2.2.2)
            clear hK K
            refine tk 8 42 rfl ?_; simp only [pa]
            refine tk 9 43 rfl ?_; simp only [pa]
            refine tk 10 44 rfl ?_; simp only [pa]
            refine tk 11 45 rfl ?_; simp only [pa]
            refine tk 12 46 rfl ?_; simp only [pa]
            refine tk 13 47 rfl ?_; simp only [pa]
            refine tk 14 48 rfl ?_; simp only [pa]
            refine wpAnyH_ready (rs := [15]) (by kernel_rfl) (by simp) ?_
            refine AllReadyH.cons rfl (fun K hK => ?_) AllReadyH.nil
            go_simp
            go_wp2_with (first | (go_at_call 87; refine (HI1.out _).mono ?_; rintro e w' ⟨rfl, rfl⟩))
            refine hK.out _ _ ?_ (fun hHeld => ?_)
            · try dsimp only
              exact HSx.out _ (hHeld.2.2.2.2.2.2.2.2.2)
            clear hK K
            refine tk 16 50 rfl ?_; simp only [pa]
            refine tk 17 51 rfl ?_; simp only [pa]
            refine tk 18 52 rfl ?_; simp only [pa]
            refine sk 19 53 rfl ?_; simp only [pa]
            refine sk 20 54 rfl ?_; simp only [pa]
            refine sk 21 55 rfl ?_; simp only [pa]
            refine sk 22 56 rfl ?_; simp only [pa]
            refine sk 23 57 rfl ?_; simp only [pa]
            refine sk 24 58 rfl ?_; simp only [pa]
            refine sk 25 59 rfl ?_; simp only [pa]
            refine tk 26 60 rfl ?_; simp only [pa]
            refine tk 27 61 rfl ?_; simp only [pa]
            refine sk 28 62 rfl ?_; simp only [pa]
            refine sk 29 63 rfl ?_; simp only [pa]
            refine sk 30 64 rfl ?_; simp only [pa]
            refine sk 31 65 rfl ?_; simp only [pa]
            refine sk 32 66 rfl ?_; simp only [pa]
            refine sk 33 67 rfl ?_; simp only [pa]
            refine sk 34 68 rfl ?_; simp only [pa]
            refine sk 35 69 rfl ?_; simp only [pa]
            refine sk 36 70 rfl ?_; simp only [pa]
            refine sk 37 71 rfl ?_; simp only [pa]
            refine sk 38 72 rfl ?_; simp only [pa]
            refine sk 39 73 rfl ?_; simp only [pa]
            refine sk 40 74 rfl ?_; simp only [pa]
            refine sk 41 75 rfl ?_; simp only [pa]
            refine sk 42 76 rfl ?_; simp only [pa]
            refine tk 43 77 rfl ?_; simp only [pa]
            have HE := hidP (hHeld.2.2.2.2.2.2.2.2.2)
            refine wpAnyH_done (by kernel_rfl) ?_ _
            clear hHeld
            go_wp2_with fail
            go_ret
            exact ⟨ret_b HF.out.symm, HU.out.trans ((below_box HBel.out HBel.out.size HXB.out HE.out).mono HU.out.size)⟩
          · cases K2
            · have HF : Hid (leasesS T N [] ls = false) := hidP (by rw [HPo.out]; rfl)
              clear HPo
              go_wp2_with fail
              obtain ⟨x0, x1, x2, x3, x4, x5⟩ := boxLs (q := q) WR 74
              have xB := alloc_below WR (.cells #[.bool q.a.s, .int .i64 q.a.H.toInt, .int .i64 q.a.L.toInt, .string q.t, .int .i64 q.k, .int .i64 q.u] 74)
              have xL := alloc_lt WR (.cells #[.bool q.a.s, .int .i64 q.a.H.toInt, .int .i64 q.a.L.toInt, .string q.t, .int .i64 q.k, .int .i64 q.u] 74)
              have xS : (WR.alloc (.cells #[.bool q.a.s, .int .i64 q.a.H.toInt, .int .i64 q.a.L.toInt, .string q.t, .int .i64 q.k, .int .i64 q.u] 74)).heap.size = WR.heap.size + 1 := by simp
              generalize WR.alloc (.cells #[.bool q.a.s, .int .i64 q.a.H.toInt, .int .i64 q.a.L.toInt, .string q.t, .int .i64 q.k, .int .i64 q.u] 74) = W2 at *
              have D0 := (xB.cell BL).trans B0
              have D1 := (xB.cell BL).trans B1
              have D2 := (xB.cell BL).trans B2
              have DL : w.heap.size < W2.heap.size := Nat.lt_of_lt_of_le BL xB.size
              have HXB := hidP xB
              clear xS
              clear xB
              have HSx : Hid (∀ x, Below W2.heap.size W2 x → (x.cell? ⟨w.heap.size, 0, none⟩ = some (.slice (some ⟨p, o, none⟩) n c) ∧ x.cell? ⟨w.heap.size, 1, none⟩ = some (.int .i64 T) ∧ x.cell? ⟨w.heap.size, 2, none⟩ = some (.int .i64 N) ∧ x.cell? ⟨WR.heap.size, 0, none⟩ = some (.bool q.a.s) ∧ x.cell? ⟨WR.heap.size, 1, none⟩ = some (.int .i64 q.a.H.toInt) ∧ x.cell? ⟨WR.heap.size, 2, none⟩ = some (.int .i64 q.a.L.toInt) ∧ x.cell? ⟨WR.heap.size, 3, none⟩ = some (.string q.t) ∧ x.cell? ⟨WR.heap.size, 4, none⟩ = some (.int .i64 q.k) ∧ x.cell? ⟨WR.heap.size, 5, none⟩ = some (.int .i64 q.u) ∧ Below W2.heap.size W2 x)) := hidP fun x h =>
                ⟨(h.cell DL).trans D0, (h.cell DL).trans D1, (h.cell DL).trans D2, (h.cell xL).trans x0, (h.cell xL).trans x1, (h.cell xL).trans x2, (h.cell xL).trans x3, (h.cell xL).trans x4, (h.cell xL).trans x5, h⟩
              refine wp_region_held_drew (S := (fun x => x.cell? ⟨w.heap.size, 0, none⟩ = some (.slice (some ⟨p, o, none⟩) n c) ∧ x.cell? ⟨w.heap.size, 1, none⟩ = some (.int .i64 T) ∧ x.cell? ⟨w.heap.size, 2, none⟩ = some (.int .i64 N) ∧ x.cell? ⟨WR.heap.size, 0, none⟩ = some (.bool q.a.s) ∧ x.cell? ⟨WR.heap.size, 1, none⟩ = some (.int .i64 q.a.H.toInt) ∧ x.cell? ⟨WR.heap.size, 2, none⟩ = some (.int .i64 q.a.L.toInt) ∧ x.cell? ⟨WR.heap.size, 3, none⟩ = some (.string q.t) ∧ x.cell? ⟨WR.heap.size, 4, none⟩ = some (.int .i64 q.k) ∧ x.cell? ⟨WR.heap.size, 5, none⟩ = some (.int .i64 q.u) ∧ Below W2.heap.size W2 x)) (by kernel_rfl) ?_ (fun hHeld => ?_)
              · try dsimp only
                exact HSx.out _ ((Below.refl _ _).drew)
              refine tk 0 34 rfl ?_; simp only [pa]
              refine tk 1 35 rfl ?_; simp only [pa]
              refine wpAnyH_ready (rs := [2]) (by kernel_rfl) (by simp) ?_
              refine AllReadyH.cons rfl (fun K hK => ?_) AllReadyH.nil
              go_simp
              go_wp2_with (first | (go_at_call 56; refine (HAd.out _).mono ?_; rintro e w2 ⟨rfl, hb2⟩; have b2 := (hHeld.2.2.2.2.2.2.2.2.2).trans (hb2.mono (hHeld.2.2.2.2.2.2.2.2.2).size)))
              refine hK.out _ _ ?_ (fun hHeld => ?_)
              · try dsimp only
                exact HSx.out _ b2
              clear hK K
              refine tk 3 37 rfl ?_; simp only [pa]
              refine tk 4 38 rfl ?_; simp only [pa]
              refine tk 5 39 rfl ?_; simp only [pa]
              refine tk 6 40 rfl ?_; simp only [pa]
              refine wpAnyH_ready (rs := [7]) (by kernel_rfl) (by simp) ?_
              refine AllReadyH.cons rfl (fun K hK => ?_) AllReadyH.nil
              go_simp
              go_wp2_with (first | (go_at_call 86; refine (HOw.out _).mono ?_; rintro e w' ⟨rfl, rfl⟩))
              refine hK.out _ _ ?_ (fun hHeld => ?_)
              · try dsimp only
                exact HSx.out _ (hHeld.2.2.2.2.2.2.2.2.2)
              clear hK K
              refine tk 8 42 rfl ?_; simp only [pa]
              refine tk 9 43 rfl ?_; simp only [pa]
              refine tk 10 44 rfl ?_; simp only [pa]
              refine tk 11 45 rfl ?_; simp only [pa]
              refine tk 12 46 rfl ?_; simp only [pa]
              refine tk 13 47 rfl ?_; simp only [pa]
              refine tk 14 48 rfl ?_; simp only [pa]
              refine wpAnyH_ready (rs := [15]) (by kernel_rfl) (by simp) ?_
              refine AllReadyH.cons rfl (fun K hK => ?_) AllReadyH.nil
              go_simp
              go_wp2_with (first | (go_at_call 87; refine (HI1.out _).mono ?_; rintro e w' ⟨rfl, rfl⟩))
              refine hK.out _ _ ?_ (fun hHeld => ?_)
              · try dsimp only
                exact HSx.out _ (hHeld.2.2.2.2.2.2.2.2.2)
              clear hK K
              refine tk 16 50 rfl ?_; simp only [pa]
              refine tk 17 51 rfl ?_; simp only [pa]
              refine tk 18 52 rfl ?_; simp only [pa]
              refine tk 19 53 rfl ?_; simp only [pa]
              refine tk 20 54 rfl ?_; simp only [pa]
              refine tk 21 55 rfl ?_; simp only [pa]
              refine tk 22 56 rfl ?_; simp only [pa]
              refine tk 23 57 rfl ?_; simp only [pa]
              refine wpAnyH_ready (rs := [24]) (by kernel_rfl) (by simp) ?_
              refine AllReadyH.cons rfl (fun K hK => ?_) AllReadyH.nil
              go_simp
              go_wp2_with (first | (go_at_call 87; refine (HI2.out _).mono ?_; rintro e w' ⟨rfl, rfl⟩))
              refine hK.out _ _ ?_ (fun hHeld => ?_)
              · try dsimp only
                exact HSx.out _ (hHeld.2.2.2.2.2.2.2.2.2)
              clear hK K
              refine tk 25 59 rfl ?_; simp only [pa]
              refine tk 26 60 rfl ?_; simp only [pa]
              refine tk 27 61 rfl ?_; simp only [pa]
              refine sk 28 62 rfl ?_; simp only [pa]
              refine sk 29 63 rfl ?_; simp only [pa]
              refine sk 30 64 rfl ?_; simp only [pa]
              refine sk 31 65 rfl ?_; simp only [pa]
              refine sk 32 66 rfl ?_; simp only [pa]
              refine sk 33 67 rfl ?_; simp only [pa]
              refine sk 34 68 rfl ?_; simp only [pa]
              refine sk 35 69 rfl ?_; simp only [pa]
              refine sk 36 70 rfl ?_; simp only [pa]
              refine sk 37 71 rfl ?_; simp only [pa]
              refine sk 38 72 rfl ?_; simp only [pa]
              refine sk 39 73 rfl ?_; simp only [pa]
              refine sk 40 74 rfl ?_; simp only [pa]
              refine sk 41 75 rfl ?_; simp only [pa]
              refine sk 42 76 rfl ?_; simp only [pa]
              refine tk 43 77 rfl ?_; simp only [pa]
              have HE := hidP (hHeld.2.2.2.2.2.2.2.2.2)
              refine wpAnyH_done (by kernel_rfl) ?_ _
              clear hHeld
              go_wp2_with fail
              go_ret
              exact ⟨ret_b HF.out.symm, HU.out.trans ((below_box HBel.out HBel.out.size HXB.out HE.out).mono HU.out.size)⟩
            · by_cases hk0 : k = 0
              · have g0 : decide ((0 : Int) < (k : Int)) = false := decide_eq_false (by omega)
                have g1 : decide (0 < k) = false := decide_eq_false (by omega)
                have hpv : ascA (prvL ls k) q.a = true := by rw [hk0]; rfl
                rw [hpv] at HPo
                clear hk0 hpv
                go_wp2_with fail
                obtain ⟨x0, x1, x2, x3, x4, x5⟩ := boxLs (q := q) WR 74
                have xB := alloc_below WR (.cells #[.bool q.a.s, .int .i64 q.a.H.toInt, .int .i64 q.a.L.toInt, .string q.t, .int .i64 q.k, .int .i64 q.u] 74)
                have xL := alloc_lt WR (.cells #[.bool q.a.s, .int .i64 q.a.H.toInt, .int .i64 q.a.L.toInt, .string q.t, .int .i64 q.k, .int .i64 q.u] 74)
                have xS : (WR.alloc (.cells #[.bool q.a.s, .int .i64 q.a.H.toInt, .int .i64 q.a.L.toInt, .string q.t, .int .i64 q.k, .int .i64 q.u] 74)).heap.size = WR.heap.size + 1 := by simp
                generalize WR.alloc (.cells #[.bool q.a.s, .int .i64 q.a.H.toInt, .int .i64 q.a.L.toInt, .string q.t, .int .i64 q.k, .int .i64 q.u] 74) = W2 at *
                have D0 := (xB.cell BL).trans B0
                have D1 := (xB.cell BL).trans B1
                have D2 := (xB.cell BL).trans B2
                have DL : w.heap.size < W2.heap.size := Nat.lt_of_lt_of_le BL xB.size
                have HXB := hidP xB
                clear xS
                clear xB
                have HSx : Hid (∀ x, Below W2.heap.size W2 x → (x.cell? ⟨w.heap.size, 0, none⟩ = some (.slice (some ⟨p, o, none⟩) n c) ∧ x.cell? ⟨w.heap.size, 1, none⟩ = some (.int .i64 T) ∧ x.cell? ⟨w.heap.size, 2, none⟩ = some (.int .i64 N) ∧ x.cell? ⟨WR.heap.size, 0, none⟩ = some (.bool q.a.s) ∧ x.cell? ⟨WR.heap.size, 1, none⟩ = some (.int .i64 q.a.H.toInt) ∧ x.cell? ⟨WR.heap.size, 2, none⟩ = some (.int .i64 q.a.L.toInt) ∧ x.cell? ⟨WR.heap.size, 3, none⟩ = some (.string q.t) ∧ x.cell? ⟨WR.heap.size, 4, none⟩ = some (.int .i64 q.k) ∧ x.cell? ⟨WR.heap.size, 5, none⟩ = some (.int .i64 q.u) ∧ Below W2.heap.size W2 x)) := hidP fun x h =>
                  ⟨(h.cell DL).trans D0, (h.cell DL).trans D1, (h.cell DL).trans D2, (h.cell xL).trans x0, (h.cell xL).trans x1, (h.cell xL).trans x2, (h.cell xL).trans x3, (h.cell xL).trans x4, (h.cell xL).trans x5, h⟩
                refine wp_region_held_drew (S := (fun x => x.cell? ⟨w.heap.size, 0, none⟩ = some (.slice (some ⟨p, o, none⟩) n c) ∧ x.cell? ⟨w.heap.size, 1, none⟩ = some (.int .i64 T) ∧ x.cell? ⟨w.heap.size, 2, none⟩ = some (.int .i64 N) ∧ x.cell? ⟨WR.heap.size, 0, none⟩ = some (.bool q.a.s) ∧ x.cell? ⟨WR.heap.size, 1, none⟩ = some (.int .i64 q.a.H.toInt) ∧ x.cell? ⟨WR.heap.size, 2, none⟩ = some (.int .i64 q.a.L.toInt) ∧ x.cell? ⟨WR.heap.size, 3, none⟩ = some (.string q.t) ∧ x.cell? ⟨WR.heap.size, 4, none⟩ = some (.int .i64 q.k) ∧ x.cell? ⟨WR.heap.size, 5, none⟩ = some (.int .i64 q.u) ∧ Below W2.heap.size W2 x)) (by kernel_rfl) ?_ (fun hHeld => ?_)
                · try dsimp only
                  exact HSx.out _ ((Below.refl _ _).drew)
                refine tk 0 34 rfl ?_; simp only [pa]
                refine tk 1 35 rfl ?_; simp only [pa]
                refine wpAnyH_ready (rs := [2]) (by kernel_rfl) (by simp) ?_
                refine AllReadyH.cons rfl (fun K hK => ?_) AllReadyH.nil
                go_simp
                go_wp2_with (first | (go_at_call 56; refine (HAd.out _).mono ?_; rintro e w2 ⟨rfl, hb2⟩; have b2 := (hHeld.2.2.2.2.2.2.2.2.2).trans (hb2.mono (hHeld.2.2.2.2.2.2.2.2.2).size)))
                refine hK.out _ _ ?_ (fun hHeld => ?_)
                · try dsimp only
                  exact HSx.out _ b2
                clear hK K
                refine tk 3 37 rfl ?_; simp only [pa]
                refine tk 4 38 rfl ?_; simp only [pa]
                refine tk 5 39 rfl ?_; simp only [pa]
                refine tk 6 40 rfl ?_; simp only [pa]
                refine wpAnyH_ready (rs := [7]) (by kernel_rfl) (by simp) ?_
                refine AllReadyH.cons rfl (fun K hK => ?_) AllReadyH.nil
                go_simp
                go_wp2_with (first | (go_at_call 86; refine (HOw.out _).mono ?_; rintro e w' ⟨rfl, rfl⟩))
                refine hK.out _ _ ?_ (fun hHeld => ?_)
                · try dsimp only
                  exact HSx.out _ (hHeld.2.2.2.2.2.2.2.2.2)
                clear hK K
                refine tk 8 42 rfl ?_; simp only [pa]
                refine tk 9 43 rfl ?_; simp only [pa]
                refine tk 10 44 rfl ?_; simp only [pa]
                refine tk 11 45 rfl ?_; simp only [pa]
                refine tk 12 46 rfl ?_; simp only [pa]
                refine tk 13 47 rfl ?_; simp only [pa]
                refine tk 14 48 rfl ?_; simp only [pa]
                refine wpAnyH_ready (rs := [15]) (by kernel_rfl) (by simp) ?_
                refine AllReadyH.cons rfl (fun K hK => ?_) AllReadyH.nil
                go_simp
                go_wp2_with (first | (go_at_call 87; refine (HI1.out _).mono ?_; rintro e w' ⟨rfl, rfl⟩))
                refine hK.out _ _ ?_ (fun hHeld => ?_)
                · try dsimp only
                  exact HSx.out _ (hHeld.2.2.2.2.2.2.2.2.2)
                clear hK K
                refine tk 16 50 rfl ?_; simp only [pa]
                refine tk 17 51 rfl ?_; simp only [pa]
                refine tk 18 52 rfl ?_; simp only [pa]
                refine tk 19 53 rfl ?_; simp only [pa]
                refine tk 20 54 rfl ?_; simp only [pa]
                refine tk 21 55 rfl ?_; simp only [pa]
                refine tk 22 56 rfl ?_; simp only [pa]
                refine tk 23 57 rfl ?_; simp only [pa]
                refine wpAnyH_ready (rs := [24]) (by kernel_rfl) (by simp) ?_
                refine AllReadyH.cons rfl (fun K hK => ?_) AllReadyH.nil
                go_simp
                go_wp2_with (first | (go_at_call 87; refine (HI2.out _).mono ?_; rintro e w' ⟨rfl, rfl⟩))
                refine hK.out _ _ ?_ (fun hHeld => ?_)
                · try dsimp only
                  exact HSx.out _ (hHeld.2.2.2.2.2.2.2.2.2)
                clear hK K
                refine tk 25 59 rfl ?_; simp only [pa]
                refine tk 26 60 rfl ?_; simp only [pa]
                refine tk 27 61 rfl ?_; simp only [pa]
                refine tk 28 62 rfl ?_; simp only [pa]
                refine tk 29 63 rfl ?_; simp only [pa]
                refine tk 30 64 rfl ?_; simp only [pa]
                refine sk 31 65 rfl ?_; simp only [pa]
                refine sk 32 66 rfl ?_; simp only [pa]
                refine sk 33 67 rfl ?_; simp only [pa]
                refine sk 34 68 rfl ?_; simp only [pa]
                refine sk 35 69 rfl ?_; simp only [pa]
                refine sk 36 70 rfl ?_; simp only [pa]
                refine sk 37 71 rfl ?_; simp only [pa]
                refine sk 38 72 rfl ?_; simp only [pa]
                refine sk 39 73 rfl ?_; simp only [pa]
                refine sk 40 74 rfl ?_; simp only [pa]
                refine sk 41 75 rfl ?_; simp only [pa]
                refine tk 42 76 rfl ?_; simp only [pa]
                refine tk 43 77 rfl ?_; simp only [pa]
                have HE := hidP (hHeld.2.2.2.2.2.2.2.2.2)
                refine wpAnyH_done (by kernel_rfl) ?_ _
                clear hHeld
                go_wp2_with fail
                go_loopw [5] (fun t5 wr => ∃ j : Nat, j ≤ k ∧ t5 = .int .i64 j ∧ hasTok q.k (ls.take j) = false ∧ Below W2.heap.size W2 wr) (fun t5 _ => k - (intOf t5).toNat)
                case atStart => exact ⟨0, Nat.zero_le _, rfl, rfl, HE.out⟩
                case round =>
                  obtain ⟨j, hj, rfl, hto, hbel⟩ := hrel
                  have G0 := (hbel.cell DL).trans D0
                  have GL : w.heap.size < wr.heap.size := Nat.lt_of_lt_of_le DL hbel.size
                  have X4 := (hbel.cell xL).trans x4
                  have XL : WR.heap.size < wr.heap.size := Nat.lt_of_lt_of_le xL hbel.size
                  by_cases hjk : j < k
                  · obtain ⟨p', o', r, he, hp', hr, c0, c1, c2, c3, c4, c5⟩ := rowLs HR.out j (by have := HN.out; omega)
                    simp only [Option.some.injEq, Addr.mk.injEq, and_true] at he
                    obtain ⟨rfl, rfl⟩ := he
                    have Y4 := (hbel.cell (Nat.lt_of_lt_of_le hpw HXB.out.size)).trans ((HXB.out.cell hpw).trans ((HBel.out.cell hp').trans c4))
                    have YL : p < wr.heap.size := Nat.lt_of_lt_of_le (Nat.lt_of_lt_of_le hpw HXB.out.size) hbel.size
                    have hjn : j < n := by omega
                    have j0 : (0 : Int) ≤ (j : Int) := by omega
                    have j1 : (j : Int) < (n : Int) := by omega
                    have jd : decide ((j : Int) < (k : Int)) = true := decide_eq_true (by omega)
                    have HBl := hidP hbel
                    have HTo := hidP hto
                    have HRr := hidP hr
                    clear c0 c1 c2 c3 c4 c5 hr hto hbel
                    cases hE : (r.k == q.k)
                    · go_wp2_with fail
                      have HSx : Hid (∀ x, Below wr.heap.size wr x → (x.cell? ⟨w.heap.size, 0, none⟩ = some (.slice (some ⟨p, o, none⟩) n c) ∧ x.cell? ⟨WR.heap.size, 4, none⟩ = some (.int .i64 q.k) ∧ x.cell? ⟨p, o + j * 6 + 4, none⟩ = some (.int .i64 r.k) ∧ Below wr.heap.size wr x)) := hidP fun x h =>
                        ⟨(h.cell GL).trans G0, (h.cell XL).trans X4, (h.cell YL).trans Y4, h⟩
                      refine wp_region_held_drew (S := (fun x => x.cell? ⟨w.heap.size, 0, none⟩ = some (.slice (some ⟨p, o, none⟩) n c) ∧ x.cell? ⟨WR.heap.size, 4, none⟩ = some (.int .i64 q.k) ∧ x.cell? ⟨p, o + j * 6 + 4, none⟩ = some (.int .i64 r.k) ∧ Below wr.heap.size wr x)) (by kernel_rfl) ?_ (fun hHeld => ?_)
                      · try dsimp only
                        exact HSx.out _ ((Below.refl _ _).drew)
                      refine tk 0 83 rfl ?_; simp only [pa]
                      refine tk 1 84 rfl ?_; simp only [pa]
                      refine tk 2 85 rfl ?_; simp only [pa]
                      refine tk 3 86 rfl ?_; simp only [pa]
                      refine tk 4 87 rfl ?_; simp only [pa]
                      refine tk 5 88 rfl ?_; simp only [pa]
                      refine tk 6 89 rfl ?_; simp only [pa]
                      refine tk 7 90 rfl ?_; simp only [pa]
                      refine tk 8 91 rfl ?_; simp only [pa]
                      have HE2 := hidP (hHeld.2.2.2)
                      refine wpAnyH_done (by kernel_rfl) ?_ _
                      clear hHeld
                      go_wp2_with fail
                      go_roundw
                      case rel => exact ⟨j + 1, by omega, by go_num, hasTok_step HRr.out HTo.out hE, HBl.out.trans (HE2.out.mono HBl.out.size)⟩
                      case measure => simp [intOf]; omega
                    · have HF : Hid (leasesS T N [] ls = false) := hidP (by rw [HPo.out, hasTok_yes HRr.out hjk hE]; rfl)
                      go_wp2_with fail
                      have HSx : Hid (∀ x, Below wr.heap.size wr x → (x.cell? ⟨w.heap.size, 0, none⟩ = some (.slice (some ⟨p, o, none⟩) n c) ∧ x.cell? ⟨WR.heap.size, 4, none⟩ = some (.int .i64 q.k) ∧ x.cell? ⟨p, o + j * 6 + 4, none⟩ = some (.int .i64 r.k) ∧ Below wr.heap.size wr x)) := hidP fun x h =>
                        ⟨(h.cell GL).trans G0, (h.cell XL).trans X4, (h.cell YL).trans Y4, h⟩
                      refine wp_region_held_drew (S := (fun x => x.cell? ⟨w.heap.size, 0, none⟩ = some (.slice (some ⟨p, o, none⟩) n c) ∧ x.cell? ⟨WR.heap.size, 4, none⟩ = some (.int .i64 q.k) ∧ x.cell? ⟨p, o + j * 6 + 4, none⟩ = some (.int .i64 r.k) ∧ Below wr.heap.size wr x)) (by kernel_rfl) ?_ (fun hHeld => ?_)
                      · try dsimp only
                        exact HSx.out _ ((Below.refl _ _).drew)
                      refine tk 0 83 rfl ?_; simp only [pa]
                      refine tk 1 84 rfl ?_; simp only [pa]
                      refine tk 2 85 rfl ?_; simp only [pa]
                      refine tk 3 86 rfl ?_; simp only [pa]
                      refine tk 4 87 rfl ?_; simp only [pa]
                      refine tk 5 88 rfl ?_; simp only [pa]
                      refine tk 6 89 rfl ?_; simp only [pa]
                      refine tk 7 90 rfl ?_; simp only [pa]
                      refine tk 8 91 rfl ?_; simp only [pa]
                      have HE2 := hidP (hHeld.2.2.2)
                      refine wpAnyH_done (by kernel_rfl) ?_ _
                      clear hHeld
                      go_wp2_with fail
                      go_ret
                      exact ⟨ret_b HF.out.symm, HU.out.trans ((below_box HBel.out HBel.out.size HXB.out (HBl.out.trans (HE2.out.mono HBl.out.size))).mono HU.out.size)⟩
                  · have hjk' : j = k := by omega
                    have jd : decide ((j : Int) < (k : Int)) = false := decide_eq_false (by omega)
                    have HBl := hidP hbel
                    have HF : Hid (leasesS T N [] ls = leasesS T N (ls.take (k + 1)) (ls.drop (k + 1))) := hidP (by rw [HPo.out, ← hjk', hto]; rfl)
                    clear hto hbel hjk'
                    go_wp2_with fail
                    go_roundw
                    case rel => exact ⟨k + 1, by omega, by go_num, HF.out, (fun r h => by rw [HNx.out] at h; cases h; exact HOk.out rfl), below_box HBel.out HBel.out.size HXB.out HBl.out⟩
                    case measure => simp [intOf]; omega
              · have g0 : decide ((0 : Int) < (k : Int)) = true := decide_eq_true (by omega)
                have g1 : decide (0 < k) = true := decide_eq_true (by omega)
                obtain ⟨J, hJ⟩ : ∃ J, J = k - 1 := ⟨_, rfl⟩
                have hkJ : k = J + 1 := by omega
                have hJi : (k : Int) - 1 = (J : Int) := by omega
                have hJn : J < n := by omega
                have wJ : IntKind.i64.wrap (J : Int) = (J : Int) := by rw [IntKind.wrap_i64]; omega
                have hJ0 : (0 : Int) ≤ (J : Int) := by omega
                have hJ1 : (J : Int) < (n : Int) := by omega
                obtain ⟨p', o', r, he, hp', hr, c0, c1, c2, c3, c4, c5⟩ := rowLs HR.out J (by rw [← HN.out]; exact hJn)
                simp only [Option.some.injEq, Addr.mk.injEq, and_true] at he
                obtain ⟨rfl, rfl⟩ := he
                have hprv : prvL ls k = some r.a := by rw [hkJ]; exact prvL_next hr
                have hrok : r.a.ok = true := HPr.out _ hprv
                have hpv : ascA (prvL ls k) q.a = decide (r.a.key < q.a.key) := by rw [hprv]; rfl
                rw [hpv] at HPo
                have HFo := hidP ((cmp_ok r.a.s r.a.H r.a.L q.a.s q.a.H q.a.L hrok hAok).1)
                have hge : decide (0 ≤ cmpW (keyN r.a.s r.a.H r.a.L : Int) (keyN q.a.s q.a.H q.a.L : Int)) = !decide (r.a.key < q.a.key) := cmpW_ge _ _
                generalize cmpW (keyN r.a.s r.a.H r.a.L : Int) (keyN q.a.s q.a.H q.a.L : Int) = z at *
                have e0 := (HBel.out.cell hp').trans c0
                have e1 := (HBel.out.cell hp').trans c1
                have e2 := (HBel.out.cell hp').trans c2
                clear c0 c1 c2 c3 c4 c5 hr hprv hrok hJ hkJ hk0 hpv
                cases hfo : decide (r.a.key < q.a.key)
                · rw [hfo] at HPo hge
                  have hge' : decide (0 ≤ z) = true := hge
                  clear hge hfo
                  have HF : Hid (leasesS T N [] ls = false) := hidP (by rw [HPo.out]; rfl)
                  clear HPo
                  go_wp2_with fail
                  obtain ⟨x0, x1, x2, x3, x4, x5⟩ := boxLs (q := q) WR 74
                  have xB := alloc_below WR (.cells #[.bool q.a.s, .int .i64 q.a.H.toInt, .int .i64 q.a.L.toInt, .string q.t, .int .i64 q.k, .int .i64 q.u] 74)
                  have xL := alloc_lt WR (.cells #[.bool q.a.s, .int .i64 q.a.H.toInt, .int .i64 q.a.L.toInt, .string q.t, .int .i64 q.k, .int .i64 q.u] 74)
                  have xS : (WR.alloc (.cells #[.bool q.a.s, .int .i64 q.a.H.toInt, .int .i64 q.a.L.toInt, .string q.t, .int .i64 q.k, .int .i64 q.u] 74)).heap.size = WR.heap.size + 1 := by simp
                  generalize WR.alloc (.cells #[.bool q.a.s, .int .i64 q.a.H.toInt, .int .i64 q.a.L.toInt, .string q.t, .int .i64 q.k, .int .i64 q.u] 74) = W2 at *
                  have D0 := (xB.cell BL).trans B0
                  have D1 := (xB.cell BL).trans B1
                  have D2 := (xB.cell BL).trans B2
                  have DL : w.heap.size < W2.heap.size := Nat.lt_of_lt_of_le BL xB.size
                  have HXB := hidP xB
                  clear xS
                  have y0 := (xB.cell hpw).trans e0
                  have y1 := (xB.cell hpw).trans e1
                  have y2 := (xB.cell hpw).trans e2
                  have yL : p < W2.heap.size := Nat.lt_of_lt_of_le hpw xB.size
                  clear xB
                  have HSx : Hid (∀ x, Below W2.heap.size W2 x → (x.cell? ⟨w.heap.size, 0, none⟩ = some (.slice (some ⟨p, o, none⟩) n c) ∧ x.cell? ⟨w.heap.size, 1, none⟩ = some (.int .i64 T) ∧ x.cell? ⟨w.heap.size, 2, none⟩ = some (.int .i64 N) ∧ x.cell? ⟨WR.heap.size, 0, none⟩ = some (.bool q.a.s) ∧ x.cell? ⟨WR.heap.size, 1, none⟩ = some (.int .i64 q.a.H.toInt) ∧ x.cell? ⟨WR.heap.size, 2, none⟩ = some (.int .i64 q.a.L.toInt) ∧ x.cell? ⟨WR.heap.size, 3, none⟩ = some (.string q.t) ∧ x.cell? ⟨WR.heap.size, 4, none⟩ = some (.int .i64 q.k) ∧ x.cell? ⟨WR.heap.size, 5, none⟩ = some (.int .i64 q.u) ∧ x.cell? ⟨p, o + J * 6, none⟩ = some (.bool r.a.s) ∧ x.cell? ⟨p, o + J * 6 + 1, none⟩ = some (.int .i64 r.a.H.toInt) ∧ x.cell? ⟨p, o + J * 6 + 2, none⟩ = some (.int .i64 r.a.L.toInt) ∧ Below W2.heap.size W2 x)) := hidP fun x h =>
                    ⟨(h.cell DL).trans D0, (h.cell DL).trans D1, (h.cell DL).trans D2, (h.cell xL).trans x0, (h.cell xL).trans x1, (h.cell xL).trans x2, (h.cell xL).trans x3, (h.cell xL).trans x4, (h.cell xL).trans x5, (h.cell yL).trans y0, (h.cell yL).trans y1, (h.cell yL).trans y2, h⟩
                  refine wp_region_held_drew (S := (fun x => x.cell? ⟨w.heap.size, 0, none⟩ = some (.slice (some ⟨p, o, none⟩) n c) ∧ x.cell? ⟨w.heap.size, 1, none⟩ = some (.int .i64 T) ∧ x.cell? ⟨w.heap.size, 2, none⟩ = some (.int .i64 N) ∧ x.cell? ⟨WR.heap.size, 0, none⟩ = some (.bool q.a.s) ∧ x.cell? ⟨WR.heap.size, 1, none⟩ = some (.int .i64 q.a.H.toInt) ∧ x.cell? ⟨WR.heap.size, 2, none⟩ = some (.int .i64 q.a.L.toInt) ∧ x.cell? ⟨WR.heap.size, 3, none⟩ = some (.string q.t) ∧ x.cell? ⟨WR.heap.size, 4, none⟩ = some (.int .i64 q.k) ∧ x.cell? ⟨WR.heap.size, 5, none⟩ = some (.int .i64 q.u) ∧ x.cell? ⟨p, o + J * 6, none⟩ = some (.bool r.a.s) ∧ x.cell? ⟨p, o + J * 6 + 1, none⟩ = some (.int .i64 r.a.H.toInt) ∧ x.cell? ⟨p, o + J * 6 + 2, none⟩ = some (.int .i64 r.a.L.toInt) ∧ Below W2.heap.size W2 x)) (by kernel_rfl) ?_ (fun hHeld => ?_)
                  · try dsimp only
                    exact HSx.out _ ((Below.refl _ _).drew)
                  refine tk 0 34 rfl ?_; simp only [pa]
                  refine tk 1 35 rfl ?_; simp only [pa]
                  refine wpAnyH_ready (rs := [2]) (by kernel_rfl) (by simp) ?_
                  refine AllReadyH.cons rfl (fun K hK => ?_) AllReadyH.nil
                  go_simp
                  go_wp2_with (first | (go_at_call 56; refine (HAd.out _).mono ?_; rintro e w2 ⟨rfl, hb2⟩; have b2 := (hHeld.2.2.2.2.2.2.2.2.2.2.2.2).trans (hb2.mono (hHeld.2.2.2.2.2.2.2.2.2.2.2.2).size)))
                  refine hK.out _ _ ?_ (fun hHeld => ?_)
                  · try dsimp only
                    exact HSx.out _ b2
                  clear hK K
                  refine tk 3 37 rfl ?_; simp only [pa]
                  refine tk 4 38 rfl ?_; simp only [pa]
                  refine tk 5 39 rfl ?_; simp only [pa]
                  refine tk 6 40 rfl ?_; simp only [pa]
                  refine wpAnyH_ready (rs := [7]) (by kernel_rfl) (by simp) ?_
                  refine AllReadyH.cons rfl (fun K hK => ?_) AllReadyH.nil
                  go_simp
                  go_wp2_with (first | (go_at_call 86; refine (HOw.out _).mono ?_; rintro e w' ⟨rfl, rfl⟩))
                  refine hK.out _ _ ?_ (fun hHeld => ?_)
                  · try dsimp only
                    exact HSx.out _ (hHeld.2.2.2.2.2.2.2.2.2.2.2.2)
                  clear hK K
                  refine tk 8 42 rfl ?_; simp only [pa]
                  refine tk 9 43 rfl ?_; simp only [pa]
                  refine tk 10 44 rfl ?_; simp only [pa]
                  refine tk 11 45 rfl ?_; simp only [pa]
                  refine tk 12 46 rfl ?_; simp only [pa]
                  refine tk 13 47 rfl ?_; simp only [pa]
                  refine tk 14 48 rfl ?_; simp only [pa]
                  refine wpAnyH_ready (rs := [15]) (by kernel_rfl) (by simp) ?_
                  refine AllReadyH.cons rfl (fun K hK => ?_) AllReadyH.nil
                  go_simp
                  go_wp2_with (first | (go_at_call 87; refine (HI1.out _).mono ?_; rintro e w' ⟨rfl, rfl⟩))
                  refine hK.out _ _ ?_ (fun hHeld => ?_)
                  · try dsimp only
                    exact HSx.out _ (hHeld.2.2.2.2.2.2.2.2.2.2.2.2)
                  clear hK K
                  refine tk 16 50 rfl ?_; simp only [pa]
                  refine tk 17 51 rfl ?_; simp only [pa]
                  refine tk 18 52 rfl ?_; simp only [pa]
                  refine tk 19 53 rfl ?_; simp only [pa]
                  refine tk 20 54 rfl ?_; simp only [pa]
                  refine tk 21 55 rfl ?_; simp only [pa]
                  refine tk 22 56 rfl ?_; simp only [pa]
                  refine tk 23 57 rfl ?_; simp only [pa]
                  refine wpAnyH_ready (rs := [24]) (by kernel_rfl) (by simp) ?_
                  refine AllReadyH.cons rfl (fun K hK => ?_) AllReadyH.nil
                  go_simp
                  go_wp2_with (first | (go_at_call 87; refine (HI2.out _).mono ?_; rintro e w' ⟨rfl, rfl⟩))
                  refine hK.out _ _ ?_ (fun hHeld => ?_)
                  · try dsimp only
                    exact HSx.out _ (hHeld.2.2.2.2.2.2.2.2.2.2.2.2)
                  clear hK K
                  refine tk 25 59 rfl ?_; simp only [pa]
                  refine tk 26 60 rfl ?_; simp only [pa]
                  refine tk 27 61 rfl ?_; simp only [pa]
                  refine tk 28 62 rfl ?_; simp only [pa]
                  refine tk 29 63 rfl ?_; simp only [pa]
                  refine tk 30 64 rfl ?_; simp only [pa]
                  refine tk 31 65 rfl ?_; simp only [pa]
                  refine tk 32 66 rfl ?_; simp only [pa]
                  refine tk 33 67 rfl ?_; simp only [pa]
                  refine tk 34 68 rfl ?_; simp only [pa]
                  refine tk 35 69 rfl ?_; simp only [pa]
                  refine tk 36 70 rfl ?_; simp only [pa]
                  refine tk 37 71 rfl ?_; simp only [pa]
                  refine tk 38 72 rfl ?_; simp only [pa]
                  refine tk 39 73 rfl ?_; simp only [pa]
                  refine wpAnyH_ready (rs := [40]) (by kernel_rfl) (by simp) ?_
                  refine AllReadyH.cons rfl (fun K hK => ?_) AllReadyH.nil
                  go_simp
                  go_wp2_with (first | (go_at_call 88; refine (HFo.out _).mono ?_; rintro e w3 ⟨rfl, hb3⟩; have b3 := (hHeld.2.2.2.2.2.2.2.2.2.2.2.2).trans (hb3.mono (hHeld.2.2.2.2.2.2.2.2.2.2.2.2).size)))
                  refine hK.out _ _ ?_ (fun hHeld => ?_)
                  · try dsimp only
                    exact HSx.out _ b3
                  clear hK K
                  refine tk 41 75 rfl ?_; simp only [pa]
                  refine tk 42 76 rfl ?_; simp only [pa]
                  refine tk 43 77 rfl ?_; simp only [pa]
                  have HE := hidP (hHeld.2.2.2.2.2.2.2.2.2.2.2.2)
                  refine wpAnyH_done (by kernel_rfl) ?_ _
                  clear hHeld
                  go_wp2_with fail
                  go_ret
                  exact ⟨ret_b HF.out.symm, HU.out.trans ((below_box HBel.out HBel.out.size HXB.out HE.out).mono HU.out.size)⟩
                · rw [hfo] at HPo hge
                  have hge' : decide (0 ≤ z) = false := hge
                  clear hge hfo
                  go_wp2_with fail
                  obtain ⟨x0, x1, x2, x3, x4, x5⟩ := boxLs (q := q) WR 74
                  have xB := alloc_below WR (.cells #[.bool q.a.s, .int .i64 q.a.H.toInt, .int .i64 q.a.L.toInt, .string q.t, .int .i64 q.k, .int .i64 q.u] 74)
                  have xL := alloc_lt WR (.cells #[.bool q.a.s, .int .i64 q.a.H.toInt, .int .i64 q.a.L.toInt, .string q.t, .int .i64 q.k, .int .i64 q.u] 74)
                  have xS : (WR.alloc (.cells #[.bool q.a.s, .int .i64 q.a.H.toInt, .int .i64 q.a.L.toInt, .string q.t, .int .i64 q.k, .int .i64 q.u] 74)).heap.size = WR.heap.size + 1 := by simp
                  generalize WR.alloc (.cells #[.bool q.a.s, .int .i64 q.a.H.toInt, .int .i64 q.a.L.toInt, .string q.t, .int .i64 q.k, .int .i64 q.u] 74) = W2 at *
                  have D0 := (xB.cell BL).trans B0
                  have D1 := (xB.cell BL).trans B1
                  have D2 := (xB.cell BL).trans B2
                  have DL : w.heap.size < W2.heap.size := Nat.lt_of_lt_of_le BL xB.size
                  have HXB := hidP xB
                  clear xS
                  have y0 := (xB.cell hpw).trans e0
                  have y1 := (xB.cell hpw).trans e1
                  have y2 := (xB.cell hpw).trans e2
                  have yL : p < W2.heap.size := Nat.lt_of_lt_of_le hpw xB.size
                  clear xB
                  have HSx : Hid (∀ x, Below W2.heap.size W2 x → (x.cell? ⟨w.heap.size, 0, none⟩ = some (.slice (some ⟨p, o, none⟩) n c) ∧ x.cell? ⟨w.heap.size, 1, none⟩ = some (.int .i64 T) ∧ x.cell? ⟨w.heap.size, 2, none⟩ = some (.int .i64 N) ∧ x.cell? ⟨WR.heap.size, 0, none⟩ = some (.bool q.a.s) ∧ x.cell? ⟨WR.heap.size, 1, none⟩ = some (.int .i64 q.a.H.toInt) ∧ x.cell? ⟨WR.heap.size, 2, none⟩ = some (.int .i64 q.a.L.toInt) ∧ x.cell? ⟨WR.heap.size, 3, none⟩ = some (.string q.t) ∧ x.cell? ⟨WR.heap.size, 4, none⟩ = some (.int .i64 q.k) ∧ x.cell? ⟨WR.heap.size, 5, none⟩ = some (.int .i64 q.u) ∧ x.cell? ⟨p, o + J * 6, none⟩ = some (.bool r.a.s) ∧ x.cell? ⟨p, o + J * 6 + 1, none⟩ = some (.int .i64 r.a.H.toInt) ∧ x.cell? ⟨p, o + J * 6 + 2, none⟩ = some (.int .i64 r.a.L.toInt) ∧ Below W2.heap.size W2 x)) := hidP fun x h =>
                    ⟨(h.cell DL).trans D0, (h.cell DL).trans D1, (h.cell DL).trans D2, (h.cell xL).trans x0, (h.cell xL).trans x1, (h.cell xL).trans x2, (h.cell xL).trans x3, (h.cell xL).trans x4, (h.cell xL).trans x5, (h.cell yL).trans y0, (h.cell yL).trans y1, (h.cell yL).trans y2, h⟩
                  refine wp_region_held_drew (S := (fun x => x.cell? ⟨w.heap.size, 0, none⟩ = some (.slice (some ⟨p, o, none⟩) n c) ∧ x.cell? ⟨w.heap.size, 1, none⟩ = some (.int .i64 T) ∧ x.cell? ⟨w.heap.size, 2, none⟩ = some (.int .i64 N) ∧ x.cell? ⟨WR.heap.size, 0, none⟩ = some (.bool q.a.s) ∧ x.cell? ⟨WR.heap.size, 1, none⟩ = some (.int .i64 q.a.H.toInt) ∧ x.cell? ⟨WR.heap.size, 2, none⟩ = some (.int .i64 q.a.L.toInt) ∧ x.cell? ⟨WR.heap.size, 3, none⟩ = some (.string q.t) ∧ x.cell? ⟨WR.heap.size, 4, none⟩ = some (.int .i64 q.k) ∧ x.cell? ⟨WR.heap.size, 5, none⟩ = some (.int .i64 q.u) ∧ x.cell? ⟨p, o + J * 6, none⟩ = some (.bool r.a.s) ∧ x.cell? ⟨p, o + J * 6 + 1, none⟩ = some (.int .i64 r.a.H.toInt) ∧ x.cell? ⟨p, o + J * 6 + 2, none⟩ = some (.int .i64 r.a.L.toInt) ∧ Below W2.heap.size W2 x)) (by kernel_rfl) ?_ (fun hHeld => ?_)
                  · try dsimp only
                    exact HSx.out _ ((Below.refl _ _).drew)
                  refine tk 0 34 rfl ?_; simp only [pa]
                  refine tk 1 35 rfl ?_; simp only [pa]
                  refine wpAnyH_ready (rs := [2]) (by kernel_rfl) (by simp) ?_
                  refine AllReadyH.cons rfl (fun K hK => ?_) AllReadyH.nil
                  go_simp
                  go_wp2_with (first | (go_at_call 56; refine (HAd.out _).mono ?_; rintro e w2 ⟨rfl, hb2⟩; have b2 := (hHeld.2.2.2.2.2.2.2.2.2.2.2.2).trans (hb2.mono (hHeld.2.2.2.2.2.2.2.2.2.2.2.2).size)))
                  refine hK.out _ _ ?_ (fun hHeld => ?_)
                  · try dsimp only
                    exact HSx.out _ b2
                  clear hK K
                  refine tk 3 37 rfl ?_; simp only [pa]
                  refine tk 4 38 rfl ?_; simp only [pa]
                  refine tk 5 39 rfl ?_; simp only [pa]
                  refine tk 6 40 rfl ?_; simp only [pa]
                  refine wpAnyH_ready (rs := [7]) (by kernel_rfl) (by simp) ?_
                  refine AllReadyH.cons rfl (fun K hK => ?_) AllReadyH.nil
                  go_simp
                  go_wp2_with (first | (go_at_call 86; refine (HOw.out _).mono ?_; rintro e w' ⟨rfl, rfl⟩))
                  refine hK.out _ _ ?_ (fun hHeld => ?_)
                  · try dsimp only
                    exact HSx.out _ (hHeld.2.2.2.2.2.2.2.2.2.2.2.2)
                  clear hK K
                  refine tk 8 42 rfl ?_; simp only [pa]
                  refine tk 9 43 rfl ?_; simp only [pa]
                  refine tk 10 44 rfl ?_; simp only [pa]
                  refine tk 11 45 rfl ?_; simp only [pa]
                  refine tk 12 46 rfl ?_; simp only [pa]
                  refine tk 13 47 rfl ?_; simp only [pa]
                  refine tk 14 48 rfl ?_; simp only [pa]
                  refine wpAnyH_ready (rs := [15]) (by kernel_rfl) (by simp) ?_
                  refine AllReadyH.cons rfl (fun K hK => ?_) AllReadyH.nil
                  go_simp
                  go_wp2_with (first | (go_at_call 87; refine (HI1.out _).mono ?_; rintro e w' ⟨rfl, rfl⟩))
                  refine hK.out _ _ ?_ (fun hHeld => ?_)
                  · try dsimp only
                    exact HSx.out _ (hHeld.2.2.2.2.2.2.2.2.2.2.2.2)
                  clear hK K
                  refine tk 16 50 rfl ?_; simp only [pa]
                  refine tk 17 51 rfl ?_; simp only [pa]
                  refine tk 18 52 rfl ?_; simp only [pa]
                  refine tk 19 53 rfl ?_; simp only [pa]
                  refine tk 20 54 rfl ?_; simp only [pa]
                  refine tk 21 55 rfl ?_; simp only [pa]
                  refine tk 22 56 rfl ?_; simp only [pa]
                  refine tk 23 57 rfl ?_; simp only [pa]
                  refine wpAnyH_ready (rs := [24]) (by kernel_rfl) (by simp) ?_
                  refine AllReadyH.cons rfl (fun K hK => ?_) AllReadyH.nil
                  go_simp
                  go_wp2_with (first | (go_at_call 87; refine (HI2.out _).mono ?_; rintro e w' ⟨rfl, rfl⟩))
                  refine hK.out _ _ ?_ (fun hHeld => ?_)
                  · try dsimp only
                    exact HSx.out _ (hHeld.2.2.2.2.2.2.2.2.2.2.2.2)
                  clear hK K
                  refine tk 25 59 rfl ?_; simp only [pa]
                  refine tk 26 60 rfl ?_; simp only [pa]
                  refine tk 27 61 rfl ?_; simp only [pa]
                  refine tk 28 62 rfl ?_; simp only [pa]
                  refine tk 29 63 rfl ?_; simp only [pa]
                  refine tk 30 64 rfl ?_; simp only [pa]
                  refine tk 31 65 rfl ?_; simp only [pa]
                  refine tk 32 66 rfl ?_; simp only [pa]
                  refine tk 33 67 rfl ?_; simp only [pa]
                  refine tk 34 68 rfl ?_; simp only [pa]
                  refine tk 35 69 rfl ?_; simp only [pa]
                  refine tk 36 70 rfl ?_; simp only [pa]
                  refine tk 37 71 rfl ?_; simp only [pa]
                  refine tk 38 72 rfl ?_; simp only [pa]
                  refine tk 39 73 rfl ?_; simp only [pa]
                  refine wpAnyH_ready (rs := [40]) (by kernel_rfl) (by simp) ?_
                  refine AllReadyH.cons rfl (fun K hK => ?_) AllReadyH.nil
                  go_simp
                  go_wp2_with (first | (go_at_call 88; refine (HFo.out _).mono ?_; rintro e w3 ⟨rfl, hb3⟩; have b3 := (hHeld.2.2.2.2.2.2.2.2.2.2.2.2).trans (hb3.mono (hHeld.2.2.2.2.2.2.2.2.2.2.2.2).size)))
                  refine hK.out _ _ ?_ (fun hHeld => ?_)
                  · try dsimp only
                    exact HSx.out _ b3
                  clear hK K
                  refine tk 41 75 rfl ?_; simp only [pa]
                  refine tk 42 76 rfl ?_; simp only [pa]
                  refine tk 43 77 rfl ?_; simp only [pa]
                  have HE := hidP (hHeld.2.2.2.2.2.2.2.2.2.2.2.2)
                  refine wpAnyH_done (by kernel_rfl) ?_ _
                  clear hHeld
                  go_wp2_with fail
                  go_loopw [5] (fun t5 wr => ∃ j : Nat, j ≤ k ∧ t5 = .int .i64 j ∧ hasTok q.k (ls.take j) = false ∧ Below W2.heap.size W2 wr) (fun t5 _ => k - (intOf t5).toNat)
                  case atStart => exact ⟨0, Nat.zero_le _, rfl, rfl, HE.out⟩
                  case round =>
                    obtain ⟨j, hj, rfl, hto, hbel⟩ := hrel
                    have G0 := (hbel.cell DL).trans D0
                    have GL : w.heap.size < wr.heap.size := Nat.lt_of_lt_of_le DL hbel.size
                    have X4 := (hbel.cell xL).trans x4
                    have XL : WR.heap.size < wr.heap.size := Nat.lt_of_lt_of_le xL hbel.size
                    by_cases hjk : j < k
                    · obtain ⟨p', o', r, he, hp', hr, c0, c1, c2, c3, c4, c5⟩ := rowLs HR.out j (by have := HN.out; omega)
                      simp only [Option.some.injEq, Addr.mk.injEq, and_true] at he
                      obtain ⟨rfl, rfl⟩ := he
                      have Y4 := (hbel.cell (Nat.lt_of_lt_of_le hpw HXB.out.size)).trans ((HXB.out.cell hpw).trans ((HBel.out.cell hp').trans c4))
                      have YL : p < wr.heap.size := Nat.lt_of_lt_of_le (Nat.lt_of_lt_of_le hpw HXB.out.size) hbel.size
                      have hjn : j < n := by omega
                      have j0 : (0 : Int) ≤ (j : Int) := by omega
                      have j1 : (j : Int) < (n : Int) := by omega
                      have jd : decide ((j : Int) < (k : Int)) = true := decide_eq_true (by omega)
                      have HBl := hidP hbel
                      have HTo := hidP hto
                      have HRr := hidP hr
                      clear c0 c1 c2 c3 c4 c5 hr hto hbel
                      cases hE : (r.k == q.k)
                      · go_wp2_with fail
                        have HSx : Hid (∀ x, Below wr.heap.size wr x → (x.cell? ⟨w.heap.size, 0, none⟩ = some (.slice (some ⟨p, o, none⟩) n c) ∧ x.cell? ⟨WR.heap.size, 4, none⟩ = some (.int .i64 q.k) ∧ x.cell? ⟨p, o + j * 6 + 4, none⟩ = some (.int .i64 r.k) ∧ Below wr.heap.size wr x)) := hidP fun x h =>
                          ⟨(h.cell GL).trans G0, (h.cell XL).trans X4, (h.cell YL).trans Y4, h⟩
                        refine wp_region_held_drew (S := (fun x => x.cell? ⟨w.heap.size, 0, none⟩ = some (.slice (some ⟨p, o, none⟩) n c) ∧ x.cell? ⟨WR.heap.size, 4, none⟩ = some (.int .i64 q.k) ∧ x.cell? ⟨p, o + j * 6 + 4, none⟩ = some (.int .i64 r.k) ∧ Below wr.heap.size wr x)) (by kernel_rfl) ?_ (fun hHeld => ?_)
                        · try dsimp only
                          exact HSx.out _ ((Below.refl _ _).drew)
                        refine tk 0 83 rfl ?_; simp only [pa]
                        refine tk 1 84 rfl ?_; simp only [pa]
                        refine tk 2 85 rfl ?_; simp only [pa]
                        refine tk 3 86 rfl ?_; simp only [pa]
                        refine tk 4 87 rfl ?_; simp only [pa]
                        refine tk 5 88 rfl ?_; simp only [pa]
                        refine tk 6 89 rfl ?_; simp only [pa]
                        refine tk 7 90 rfl ?_; simp only [pa]
                        refine tk 8 91 rfl ?_; simp only [pa]
                        have HE2 := hidP (hHeld.2.2.2)
                        refine wpAnyH_done (by kernel_rfl) ?_ _
                        clear hHeld
                        go_wp2_with fail
                        go_roundw
                        case rel => exact ⟨j + 1, by omega, by go_num, hasTok_step HRr.out HTo.out hE, HBl.out.trans (HE2.out.mono HBl.out.size)⟩
                        case measure => simp [intOf]; omega
                      · have HF : Hid (leasesS T N [] ls = false) := hidP (by rw [HPo.out, hasTok_yes HRr.out hjk hE]; rfl)
                        go_wp2_with fail
                        have HSx : Hid (∀ x, Below wr.heap.size wr x → (x.cell? ⟨w.heap.size, 0, none⟩ = some (.slice (some ⟨p, o, none⟩) n c) ∧ x.cell? ⟨WR.heap.size, 4, none⟩ = some (.int .i64 q.k) ∧ x.cell? ⟨p, o + j * 6 + 4, none⟩ = some (.int .i64 r.k) ∧ Below wr.heap.size wr x)) := hidP fun x h =>
                          ⟨(h.cell GL).trans G0, (h.cell XL).trans X4, (h.cell YL).trans Y4, h⟩
                        refine wp_region_held_drew (S := (fun x => x.cell? ⟨w.heap.size, 0, none⟩ = some (.slice (some ⟨p, o, none⟩) n c) ∧ x.cell? ⟨WR.heap.size, 4, none⟩ = some (.int .i64 q.k) ∧ x.cell? ⟨p, o + j * 6 + 4, none⟩ = some (.int .i64 r.k) ∧ Below wr.heap.size wr x)) (by kernel_rfl) ?_ (fun hHeld => ?_)
                        · try dsimp only
                          exact HSx.out _ ((Below.refl _ _).drew)
                        refine tk 0 83 rfl ?_; simp only [pa]
                        refine tk 1 84 rfl ?_; simp only [pa]
                        refine tk 2 85 rfl ?_; simp only [pa]
                        refine tk 3 86 rfl ?_; simp only [pa]
                        refine tk 4 87 rfl ?_; simp only [pa]
                        refine tk 5 88 rfl ?_; simp only [pa]
                        refine tk 6 89 rfl ?_; simp only [pa]
                        refine tk 7 90 rfl ?_; simp only [pa]
                        refine tk 8 91 rfl ?_; simp only [pa]
                        have HE2 := hidP (hHeld.2.2.2)
                        refine wpAnyH_done (by kernel_rfl) ?_ _
                        clear hHeld
                        go_wp2_with fail
                        go_ret
                        exact ⟨ret_b HF.out.symm, HU.out.trans ((below_box HBel.out HBel.out.size HXB.out (HBl.out.trans (HE2.out.mono HBl.out.size))).mono HU.out.size)⟩
                    · have hjk' : j = k := by omega
                      have jd : decide ((j : Int) < (k : Int)) = false := decide_eq_false (by omega)
                      have HBl := hidP hbel
                      have HF : Hid (leasesS T N [] ls = leasesS T N (ls.take (k + 1)) (ls.drop (k + 1))) := hidP (by rw [HPo.out, ← hjk', hto]; rfl)
                      clear hto hbel hjk'
                      go_wp2_with fail
                      go_roundw
                      case rel => exact ⟨k + 1, by omega, by go_num, HF.out, (fun r h => by rw [HNx.out] at h; cases h; exact HOk.out rfl), below_box HBel.out HBel.out.size HXB.out HBl.out⟩
                      case measure => simp [intOf]; omega
    · have HF : Hid (leasesS T N [] ls = true) := by
        rw [List.drop_of_length_le (by have := HN.out; omega)] at hpo
        exact hidP (by rw [hpo]; rfl)
      have HBel := hidP hbel
      clear hbel hpo hpr
      go_wp2_with fail
      go_ret
      exact ⟨ret_b HF.out.symm, HU.out.trans (HBel.out.mono HU.out.size)⟩

set_option maxRecDepth 10000 in
set_option maxHeartbeats 2000000 in
theorem sBookOk_any (a : Option Addr) (n c : Nat) (T N : Int) (ls : List Ls) (w : World) (hn : n = ls.length) (hB : RowG KLs w a ls) (hl : n ≤ 1048576) (hst : ∀ q ∈ ls, q.t.size ≤ 9223372036854775807) :
    Calls Tryz.prog 53 #[.agg #[.slice a n c, .int .i64 T, .int .i64 N]] w fun e w' => e = .returned (.bool (bkB ls T N)) ∧ Below w.heap.size w w' := by
  have hv : bkB ls T N = ((decide (n ≤ 80) && ((decide (0 ≤ T) && decide (T ≤ 1000000000)) && (decide (0 ≤ N) && decide (N ≤ 1000000000)))) && leasesS T N [] ls) := by
    unfold bkB
    rw [← hn, leases_same]
  rw [hv]
  by_cases h8 : n ≤ 80
  · cases hT : (decide (0 ≤ T) && decide (T ≤ 1000000000))
    · have HT := hidP (l1InO_r T 0 1000000000 false hT)
      have g80 : decide ((80 : Int) < (n : Int)) = false := decide_eq_false (by omega)
      have g80' : decide (80 < n) = false := decide_eq_false (by omega)
      rw [Bool.false_and, Bool.and_false, Bool.false_and]
      clear hv hB hn hst hT
      go_enter Tryz.func53, Tryz.ntmps53
      go_wp2_with fail
      refine (HT.out _).mono ?_
      rintro e w' ⟨rfl, rfl⟩
      go_wp2_with fail
      go_ret
      exact ⟨rfl, alloc_below w _⟩
    · cases hN : (decide (0 ≤ N) && decide (N ≤ 1000000000))
      · have HT := hidP (l1InO_r T 0 1000000000 true hT)
        have HNn := hidP (l1InO_r N 0 1000000000 false hN)
        have g80 : decide ((80 : Int) < (n : Int)) = false := decide_eq_false (by omega)
        have g80' : decide (80 < n) = false := decide_eq_false (by omega)
        rw [Bool.and_false, Bool.and_false, Bool.false_and]
        clear hv hB hn hst hT hN
        go_enter Tryz.func53, Tryz.ntmps53
        go_wp2_with fail
        refine (HT.out _).mono ?_
        rintro e w' ⟨rfl, rfl⟩
        go_wp2_with fail
        refine (HNn.out _).mono ?_
        rintro e w' ⟨rfl, rfl⟩
        go_wp2_with fail
        go_ret
        exact ⟨rfl, alloc_below w _⟩
      · rw [decide_eq_true h8, Bool.and_true, Bool.and_true, Bool.true_and]
        exact sBookOk_in a n c T N ls w hn hB h8 hst hT hN
  · have g80 : decide ((80 : Int) < (n : Int)) = true := decide_eq_true (by omega)
    have g80' : decide (80 < n) = true := decide_eq_true (by omega)
    rw [decide_eq_false h8, Bool.false_and, Bool.false_and]
    clear hv hB hn hst h8
    go_enter Tryz.func53, Tryz.ntmps53
    go_wp2_with fail
    go_ret
    exact ⟨rfl, alloc_below w _⟩

end Go.Proofs.YtngcbhbcocnbeaaGreat
namespace Go.Proofs.YtngcbhbcocnbeaaGreat
open Go.RowKit

theorem sesF_len {N : Int} {ls : List Ss} {n : Nat} (hn : n = ls.length) : dkB ls N = ((decide ((n : Int) ≤ 12) && (decide (1 ≤ N) && decide (N ≤ 1000000))) && sesF N 0 ls) := by rw [hn]; rfl
set_option maxRecDepth 10000 in
set_option maxHeartbeats 8000000 in
theorem sDeskOk_any (a : Option Addr) (n c : Nat) (N : Int) (ls : List Ss) (w : World) (hn : n = ls.length) (hB : RowG KSs w a ls) (hl : n ≤ 1048576) :
    Calls Tryz.prog 54 #[.agg #[.slice a n c, .int .i64 N]] w fun e w' => e = .returned (.bool (dkB ls N)) ∧ Below w.heap.size w w' := by
  rw [sesF_len hn]
  have HIN := hidP (l1In7_any N 1 1000000)
  by_cases hgood : (decide ((n : Int) ≤ 12) && (decide (1 ≤ N) && decide (N ≤ 1000000))) = true
  · rw [hgood]
    simp only [Bool.and_eq_true, decide_eq_true_eq] at hgood
    obtain ⟨hn12, hN0, hN1⟩ := hgood
    have hd12 : decide ((12 : Int) < (n : Int)) = false := decide_eq_false (by omega)
    rw [decide_eq_true hN0, decide_eq_true hN1] at HIN
    obtain ⟨M, hM⟩ : ∃ M, N - 1 = M := ⟨_, rfl⟩
    have wM : IntKind.i64.wrap M = M := by rw [IntKind.wrap_i64]; omega
    have HR := hidP (fun W h => hB.later (w' := W) h)
    have HN := hidP hn
    clear hB hn
    have HM := hidP (And.intro hN0 (And.intro hN1 hM))
    go_enter Tryz.func54, Tryz.ntmps54
    go_wp2_with fail
    refine (HIN.out _).mono ?_
    rintro e w' ⟨rfl, rfl⟩
    go_wp2_with fail
    obtain ⟨b0, b1⟩ := box2D w 46 (.slice a n c) (.int .i64 N)
    have bB := alloc_below w (.cells #[.slice a n c, .int .i64 N] 46)
    have bL := alloc_lt w (.cells #[.slice a n c, .int .i64 N] 46)
    have bS : (w.alloc (.cells #[.slice a n c, .int .i64 N] 46)).heap.size = w.heap.size + 1 := by simp
    generalize w.alloc (.cells #[.slice a n c, .int .i64 N] 46) = W1 at *
    have HR1 := hidP (HR.out _ bB)
    have HU := hidP bB
    clear bB HR bS
    go_loopw [3, 4] (fun t3 _ wr => ∃ k : Nat, k ≤ n ∧ t3 = .int .i64 k ∧ sesF N 0 ls = sesF N (prvS ls k) (ls.drop k) ∧ (0 ≤ prvS ls k) ∧ Below W1.heap.size W1 wr) (fun t3 _ _ => n - (intOf t3).toNat)
    case atStart => exact ⟨0, Nat.zero_le _, rfl, rfl, Int.le_refl _, Below.refl _ _⟩
    case round =>
      obtain ⟨k, hk, rfl, hpo, hpr, hbel⟩ := hrel
      have B0 := (hbel.cell bL).trans b0
      have B1 := (hbel.cell bL).trans b1
      have BL : w.heap.size < wr.heap.size := Nat.lt_of_lt_of_le bL hbel.size
      by_cases hlt : k < n
      · obtain ⟨p, o, q, rfl, hp, hq, c0, c1, c2, c3⟩ := rowSs HR1.out k (by rw [← HN.out]; exact hlt)
        have d0 := (hbel.cell hp).trans c0
        have d1 := (hbel.cell hp).trans c1
        have d2 := (hbel.cell hp).trans c2
        have d3 := (hbel.cell hp).trans c3
        have hpw : p < wr.heap.size := Nat.lt_of_lt_of_le hp hbel.size
        rw [drop_at7 hq] at hpo
        have hpo' : sesF N 0 ls = (((decide (prvS ls k < q.i) && decide (q.i < N)) && okSs q) && sesF N q.i (ls.drop (k + 1))) := hpo
        have HNx := hidP (prvS_next hq)
        have HPo := hidP hpo'
        have HPr := hidP hpr
        have HBel := hidP hbel
        clear c0 c1 c2 c3 hq hpo hpo' hpr hbel b0 b1
        have HI1 := hidP (l1In7_any q.i 1 M)
        have HI2 := hidP (l1In7_any q.l 0 1000000)
        have HI3 := hidP (l1In7_any q.u 0 1000000000)
        have HE0 : Hid (okSs q = (((decide (0 ≤ q.l) && decide (q.l ≤ 1000000)) && (decide ((q.t.size : Int) ≤ 200) && (decide (0 < q.l) || q.t.toList.isEmpty))) && (decide (0 ≤ q.u) && decide (q.u ≤ 1000000000)))) := hidP rfl
        cases g1 : (decide (1 ≤ q.i) && decide (q.i ≤ M))
        · rw [g1] at HI1
          have HF : Hid (sesF N 0 ls = false) := hidP (by
            rw [HPo.out]
            have h := HPr.out; have h2 := HM.out
            simp only [Bool.and_eq_false_iff, decide_eq_false_iff_not] at g1 ⊢
            omega)
          clear HPo HE0 HPr HI2 HI3
          go_wp2_with fail
          obtain ⟨x0, x1, x2, x3⟩ := boxSs (q := q) wr 77
          have xB := alloc_below wr (.cells #[.int .i64 q.i, .int .i64 q.l, .string q.t, .int .i64 q.u] 77)
          have xL := alloc_lt wr (.cells #[.int .i64 q.i, .int .i64 q.l, .string q.t, .int .i64 q.u] 77)
          have xS : (wr.alloc (.cells #[.int .i64 q.i, .int .i64 q.l, .string q.t, .int .i64 q.u] 77)).heap.size = wr.heap.size + 1 := by simp
          generalize wr.alloc (.cells #[.int .i64 q.i, .int .i64 q.l, .string q.t, .int .i64 q.u] 77) = W2 at *
          have D0 := (xB.cell BL).trans B0
          have D1 := (xB.cell BL).trans B1
          have DL : w.heap.size < W2.heap.size := Nat.lt_of_lt_of_le BL xB.size
          have HXB := hidP xB
          clear xS xB
          have HSx : Hid (∀ x, Below W2.heap.size W2 x → (x.cell? ⟨w.heap.size, 0, none⟩ = some (.slice (some ⟨p, o, none⟩) n c) ∧ x.cell? ⟨w.heap.size, 1, none⟩ = some (.int .i64 N) ∧ x.cell? ⟨wr.heap.size, 0, none⟩ = some (.int .i64 q.i) ∧ x.cell? ⟨wr.heap.size, 1, none⟩ = some (.int .i64 q.l) ∧ x.cell? ⟨wr.heap.size, 2, none⟩ = some (.string q.t) ∧ x.cell? ⟨wr.heap.size, 3, none⟩ = some (.int .i64 q.u) ∧ Below W2.heap.size W2 x)) := hidP fun x h =>
            ⟨(h.cell DL).trans D0, (h.cell DL).trans D1, (h.cell xL).trans x0, (h.cell xL).trans x1, (h.cell xL).trans x2, (h.cell xL).trans x3, h⟩
          refine wp_region_held_drew (S := (fun x => x.cell? ⟨w.heap.size, 0, none⟩ = some (.slice (some ⟨p, o, none⟩) n c) ∧ x.cell? ⟨w.heap.size, 1, none⟩ = some (.int .i64 N) ∧ x.cell? ⟨wr.heap.size, 0, none⟩ = some (.int .i64 q.i) ∧ x.cell? ⟨wr.heap.size, 1, none⟩ = some (.int .i64 q.l) ∧ x.cell? ⟨wr.heap.size, 2, none⟩ = some (.string q.t) ∧ x.cell? ⟨wr.heap.size, 3, none⟩ = some (.int .i64 q.u) ∧ Below W2.heap.size W2 x)) (by kernel_rfl) ?_ (fun hHeld => ?_)
          · try dsimp only
            exact HSx.out _ ((Below.refl _ _).drew)
          refine tk 0 27 rfl ?_; simp only [pa]
          refine tk 1 28 rfl ?_; simp only [pa]
          refine tk 2 29 rfl ?_; simp only [pa]
          refine tk 3 30 rfl ?_; simp only [pa]
          refine tk 4 31 rfl ?_; simp only [pa]
          refine wpAnyH_ready (rs := [5]) (by kernel_rfl) (by simp) ?_
          refine AllReadyH.cons rfl (fun K hK => ?_) AllReadyH.nil
          go_simp
          go_wp2_with (first | (go_at_call 87; refine (HI1.out _).mono ?_; rintro e w' ⟨rfl, rfl⟩))
          refine hK.out _ _ ?_ (fun hHeld => ?_)
          · try dsimp only
            exact HSx.out _ (hHeld.2.2.2.2.2.2)
          clear hK K
          refine tk 6 33 rfl ?_; simp only [pa]
          refine tk 7 34 rfl ?_; simp only [pa]
          refine sk 8 35 rfl ?_; simp only [pa]
          refine sk 9 36 rfl ?_; simp only [pa]
          refine sk 10 37 rfl ?_; simp only [pa]
          refine sk 11 38 rfl ?_; simp only [pa]
          refine tk 12 39 rfl ?_; simp only [pa]
          refine tk 13 40 rfl ?_; simp only [pa]
          refine sk 14 41 rfl ?_; simp only [pa]
          refine sk 15 42 rfl ?_; simp only [pa]
          refine sk 16 43 rfl ?_; simp only [pa]
          refine sk 17 44 rfl ?_; simp only [pa]
          refine tk 18 45 rfl ?_; simp only [pa]
          refine tk 19 46 rfl ?_; simp only [pa]
          refine sk 20 47 rfl ?_; simp only [pa]
          refine sk 21 48 rfl ?_; simp only [pa]
          refine sk 22 49 rfl ?_; simp only [pa]
          refine sk 23 50 rfl ?_; simp only [pa]
          refine sk 24 51 rfl ?_; simp only [pa]
          refine sk 25 52 rfl ?_; simp only [pa]
          refine sk 26 53 rfl ?_; simp only [pa]
          refine sk 27 54 rfl ?_; simp only [pa]
          refine tk 28 55 rfl ?_; simp only [pa]
          refine tk 29 56 rfl ?_; simp only [pa]
          refine sk 30 57 rfl ?_; simp only [pa]
          refine sk 31 58 rfl ?_; simp only [pa]
          refine sk 32 59 rfl ?_; simp only [pa]
          refine sk 33 60 rfl ?_; simp only [pa]
          refine tk 34 61 rfl ?_; simp only [pa]
          refine tk 35 62 rfl ?_; simp only [pa]
          refine sk 36 63 rfl ?_; simp only [pa]
          refine sk 37 64 rfl ?_; simp only [pa]
          refine sk 38 65 rfl ?_; simp only [pa]
          refine sk 39 66 rfl ?_; simp only [pa]
          refine sk 40 67 rfl ?_; simp only [pa]
          refine sk 41 68 rfl ?_; simp only [pa]
          refine sk 42 69 rfl ?_; simp only [pa]
          refine sk 43 70 rfl ?_; simp only [pa]
          refine sk 44 71 rfl ?_; simp only [pa]
          refine sk 45 72 rfl ?_; simp only [pa]
          refine sk 46 73 rfl ?_; simp only [pa]
          refine sk 47 74 rfl ?_; simp only [pa]
          refine sk 48 75 rfl ?_; simp only [pa]
          refine sk 49 76 rfl ?_; simp only [pa]
          refine tk 50 77 rfl ?_; simp only [pa]
          have HE := hidP (hHeld.2.2.2.2.2.2)
          refine wpAnyH_done (by kernel_rfl) ?_ _
          clear hHeld
          go_wp2_with fail
          go_ret
          exact ⟨ret_b7 HF.out.symm, HU.out.trans ((below_box7 HBel.out HBel.out.size HXB.out HE.out).mono HU.out.size)⟩
        rw [g1] at HI1
        have HG1 : Hid (q.i < N ∧ 1 ≤ q.i) := hidP (by
          simp only [Bool.and_eq_true, decide_eq_true_eq] at g1
          have h2 := HM.out
          omega)
        have HPo1 : Hid (sesF N 0 ls = ((decide (prvS ls k < q.i) && okSs q) && sesF N q.i (ls.drop (k + 1)))) := hidP (by rw [HPo.out, decide_eq_true HG1.out.1, Bool.and_true])
        clear HPo g1
        cases g2 : (decide (0 ≤ q.l) && decide (q.l ≤ 1000000))
        · rw [g2] at HI2 HE0
          have HF : Hid (sesF N 0 ls = false) := hidP (by rw [HPo1.out, HE0.out]; simp)
          clear HPo1 HE0 HPr HI3
          go_wp2_with fail
          obtain ⟨x0, x1, x2, x3⟩ := boxSs (q := q) wr 77
          have xB := alloc_below wr (.cells #[.int .i64 q.i, .int .i64 q.l, .string q.t, .int .i64 q.u] 77)
          have xL := alloc_lt wr (.cells #[.int .i64 q.i, .int .i64 q.l, .string q.t, .int .i64 q.u] 77)
          have xS : (wr.alloc (.cells #[.int .i64 q.i, .int .i64 q.l, .string q.t, .int .i64 q.u] 77)).heap.size = wr.heap.size + 1 := by simp
          generalize wr.alloc (.cells #[.int .i64 q.i, .int .i64 q.l, .string q.t, .int .i64 q.u] 77) = W2 at *
          have D0 := (xB.cell BL).trans B0
          have D1 := (xB.cell BL).trans B1
          have DL : w.heap.size < W2.heap.size := Nat.lt_of_lt_of_le BL xB.size
          have HXB := hidP xB
          clear xS xB
          have HSx : Hid (∀ x, Below W2.heap.size W2 x → (x.cell? ⟨w.heap.size, 0, none⟩ = some (.slice (some ⟨p, o, none⟩) n c) ∧ x.cell? ⟨w.heap.size, 1, none⟩ = some (.int .i64 N) ∧ x.cell? ⟨wr.heap.size, 0, none⟩ = some (.int .i64 q.i) ∧ x.cell? ⟨wr.heap.size, 1, none⟩ = some (.int .i64 q.l) ∧ x.cell? ⟨wr.heap.size, 2, none⟩ = some (.string q.t) ∧ x.cell? ⟨wr.heap.size, 3, none⟩ = some (.int .i64 q.u) ∧ Below W2.heap.size W2 x)) := hidP fun x h =>
            ⟨(h.cell DL).trans D0, (h.cell DL).trans D1, (h.cell xL).trans x0, (h.cell xL).trans x1, (h.cell xL).trans x2, (h.cell xL).trans x3, h⟩
          refine wp_region_held_drew (S := (fun x => x.cell? ⟨w.heap.size, 0, none⟩ = some (.slice (some ⟨p, o, none⟩) n c) ∧ x.cell? ⟨w.heap.size, 1, none⟩ = some (.int .i64 N) ∧ x.cell? ⟨wr.heap.size, 0, none⟩ = some (.int .i64 q.i) ∧ x.cell? ⟨wr.heap.size, 1, none⟩ = some (.int .i64 q.l) ∧ x.cell? ⟨wr.heap.size, 2, none⟩ = some (.string q.t) ∧ x.cell? ⟨wr.heap.size, 3, none⟩ = some (.int .i64 q.u) ∧ Below W2.heap.size W2 x)) (by kernel_rfl) ?_ (fun hHeld => ?_)
          · try dsimp only
            exact HSx.out _ ((Below.refl _ _).drew)
          refine tk 0 27 rfl ?_; simp only [pa]
          refine tk 1 28 rfl ?_; simp only [pa]
          refine tk 2 29 rfl ?_; simp only [pa]
          refine tk 3 30 rfl ?_; simp only [pa]
          refine tk 4 31 rfl ?_; simp only [pa]
          refine wpAnyH_ready (rs := [5]) (by kernel_rfl) (by simp) ?_
          refine AllReadyH.cons rfl (fun K hK => ?_) AllReadyH.nil
          go_simp
          go_wp2_with (first | (go_at_call 87; refine (HI1.out _).mono ?_; rintro e w' ⟨rfl, rfl⟩))
          refine hK.out _ _ ?_ (fun hHeld => ?_)
          · try dsimp only
            exact HSx.out _ (hHeld.2.2.2.2.2.2)
          clear hK K
          refine tk 6 33 rfl ?_; simp only [pa]
          refine tk 7 34 rfl ?_; simp only [pa]
          refine tk 8 35 rfl ?_; simp only [pa]
          refine tk 9 36 rfl ?_; simp only [pa]
          refine wpAnyH_ready (rs := [10]) (by kernel_rfl) (by simp) ?_
          refine AllReadyH.cons rfl (fun K hK => ?_) AllReadyH.nil
          go_simp
          go_wp2_with (first | (go_at_call 87; refine (HI2.out _).mono ?_; rintro e w' ⟨rfl, rfl⟩))
          refine hK.out _ _ ?_ (fun hHeld => ?_)
          · try dsimp only
            exact HSx.out _ (hHeld.2.2.2.2.2.2)
          clear hK K
          refine tk 11 38 rfl ?_; simp only [pa]
          refine tk 12 39 rfl ?_; simp only [pa]
          refine tk 13 40 rfl ?_; simp only [pa]
          refine sk 14 41 rfl ?_; simp only [pa]
          refine sk 15 42 rfl ?_; simp only [pa]
          refine sk 16 43 rfl ?_; simp only [pa]
          refine sk 17 44 rfl ?_; simp only [pa]
          refine tk 18 45 rfl ?_; simp only [pa]
          refine tk 19 46 rfl ?_; simp only [pa]
          refine sk 20 47 rfl ?_; simp only [pa]
          refine sk 21 48 rfl ?_; simp only [pa]
          refine sk 22 49 rfl ?_; simp only [pa]
          refine sk 23 50 rfl ?_; simp only [pa]
          refine sk 24 51 rfl ?_; simp only [pa]
          refine sk 25 52 rfl ?_; simp only [pa]
          refine sk 26 53 rfl ?_; simp only [pa]
          refine sk 27 54 rfl ?_; simp only [pa]
          refine tk 28 55 rfl ?_; simp only [pa]
          refine tk 29 56 rfl ?_; simp only [pa]
          refine sk 30 57 rfl ?_; simp only [pa]
          refine sk 31 58 rfl ?_; simp only [pa]
          refine sk 32 59 rfl ?_; simp only [pa]
          refine sk 33 60 rfl ?_; simp only [pa]
          refine tk 34 61 rfl ?_; simp only [pa]
          refine tk 35 62 rfl ?_; simp only [pa]
          refine sk 36 63 rfl ?_; simp only [pa]
          refine sk 37 64 rfl ?_; simp only [pa]
          refine sk 38 65 rfl ?_; simp only [pa]
          refine sk 39 66 rfl ?_; simp only [pa]
          refine sk 40 67 rfl ?_; simp only [pa]
          refine sk 41 68 rfl ?_; simp only [pa]
          refine sk 42 69 rfl ?_; simp only [pa]
          refine sk 43 70 rfl ?_; simp only [pa]
          refine sk 44 71 rfl ?_; simp only [pa]
          refine sk 45 72 rfl ?_; simp only [pa]
          refine sk 46 73 rfl ?_; simp only [pa]
          refine sk 47 74 rfl ?_; simp only [pa]
          refine sk 48 75 rfl ?_; simp only [pa]
          refine sk 49 76 rfl ?_; simp only [pa]
          refine tk 50 77 rfl ?_; simp only [pa]
          have HE := hidP (hHeld.2.2.2.2.2.2)
          refine wpAnyH_done (by kernel_rfl) ?_ _
          clear hHeld
          go_wp2_with fail
          go_ret
          exact ⟨ret_b7 HF.out.symm, HU.out.trans ((below_box7 HBel.out HBel.out.size HXB.out HE.out).mono HU.out.size)⟩
        rw [g2] at HI2 HE0
        have hl0 : 0 ≤ q.l := by simp only [Bool.and_eq_true, decide_eq_true_eq] at g2; exact g2.1
        clear g2
        cases g3 : decide ((200 : Int) < (q.t.size : Int))
        rotate_left
        · have HF : Hid (sesF N 0 ls = false) := hidP (by rw [HPo1.out, HE0.out, decide_eq_false (show ¬ (q.t.size : Int) ≤ 200 by have := of_decide_eq_true g3; omega)]; simp)
          clear HPo1 HE0 HPr HI3 hl0
          go_wp2_with fail
          obtain ⟨x0, x1, x2, x3⟩ := boxSs (q := q) wr 77
          have xB := alloc_below wr (.cells #[.int .i64 q.i, .int .i64 q.l, .string q.t, .int .i64 q.u] 77)
          have xL := alloc_lt wr (.cells #[.int .i64 q.i, .int .i64 q.l, .string q.t, .int .i64 q.u] 77)
          have xS : (wr.alloc (.cells #[.int .i64 q.i, .int .i64 q.l, .string q.t, .int .i64 q.u] 77)).heap.size = wr.heap.size + 1 := by simp
          generalize wr.alloc (.cells #[.int .i64 q.i, .int .i64 q.l, .string q.t, .int .i64 q.u] 77) = W2 at *
          have D0 := (xB.cell BL).trans B0
          have D1 := (xB.cell BL).trans B1
          have DL : w.heap.size < W2.heap.size := Nat.lt_of_lt_of_le BL xB.size
          have HXB := hidP xB
          clear xS xB
          have HSx : Hid (∀ x, Below W2.heap.size W2 x → (x.cell? ⟨w.heap.size, 0, none⟩ = some (.slice (some ⟨p, o, none⟩) n c) ∧ x.cell? ⟨w.heap.size, 1, none⟩ = some (.int .i64 N) ∧ x.cell? ⟨wr.heap.size, 0, none⟩ = some (.int .i64 q.i) ∧ x.cell? ⟨wr.heap.size, 1, none⟩ = some (.int .i64 q.l) ∧ x.cell? ⟨wr.heap.size, 2, none⟩ = some (.string q.t) ∧ x.cell? ⟨wr.heap.size, 3, none⟩ = some (.int .i64 q.u) ∧ Below W2.heap.size W2 x)) := hidP fun x h =>
            ⟨(h.cell DL).trans D0, (h.cell DL).trans D1, (h.cell xL).trans x0, (h.cell xL).trans x1, (h.cell xL).trans x2, (h.cell xL).trans x3, h⟩
          refine wp_region_held_drew (S := (fun x => x.cell? ⟨w.heap.size, 0, none⟩ = some (.slice (some ⟨p, o, none⟩) n c) ∧ x.cell? ⟨w.heap.size, 1, none⟩ = some (.int .i64 N) ∧ x.cell? ⟨wr.heap.size, 0, none⟩ = some (.int .i64 q.i) ∧ x.cell? ⟨wr.heap.size, 1, none⟩ = some (.int .i64 q.l) ∧ x.cell? ⟨wr.heap.size, 2, none⟩ = some (.string q.t) ∧ x.cell? ⟨wr.heap.size, 3, none⟩ = some (.int .i64 q.u) ∧ Below W2.heap.size W2 x)) (by kernel_rfl) ?_ (fun hHeld => ?_)
          · try dsimp only
            exact HSx.out _ ((Below.refl _ _).drew)
          refine tk 0 27 rfl ?_; simp only [pa]
          refine tk 1 28 rfl ?_; simp only [pa]
          refine tk 2 29 rfl ?_; simp only [pa]
          refine tk 3 30 rfl ?_; simp only [pa]
          refine tk 4 31 rfl ?_; simp only [pa]
          refine wpAnyH_ready (rs := [5]) (by kernel_rfl) (by simp) ?_
          refine AllReadyH.cons rfl (fun K hK => ?_) AllReadyH.nil
          go_simp
          go_wp2_with (first | (go_at_call 87; refine (HI1.out _).mono ?_; rintro e w' ⟨rfl, rfl⟩))
          refine hK.out _ _ ?_ (fun hHeld => ?_)
          · try dsimp only
            exact HSx.out _ (hHeld.2.2.2.2.2.2)
          clear hK K
          refine tk 6 33 rfl ?_; simp only [pa]
          refine tk 7 34 rfl ?_; simp only [pa]
          refine tk 8 35 rfl ?_; simp only [pa]
          refine tk 9 36 rfl ?_; simp only [pa]
          refine wpAnyH_ready (rs := [10]) (by kernel_rfl) (by simp) ?_
          refine AllReadyH.cons rfl (fun K hK => ?_) AllReadyH.nil
          go_simp
          go_wp2_with (first | (go_at_call 87; refine (HI2.out _).mono ?_; rintro e w' ⟨rfl, rfl⟩))
          refine hK.out _ _ ?_ (fun hHeld => ?_)
          · try dsimp only
            exact HSx.out _ (hHeld.2.2.2.2.2.2)
          clear hK K
          refine tk 11 38 rfl ?_; simp only [pa]
          refine tk 12 39 rfl ?_; simp only [pa]
          refine tk 13 40 rfl ?_; simp only [pa]
          refine tk 14 41 rfl ?_; simp only [pa]
          refine tk 15 42 rfl ?_; simp only [pa]
          refine tk 16 43 rfl ?_; simp only [pa]
          refine tk 17 44 rfl ?_; simp only [pa]
          refine tk 18 45 rfl ?_; simp only [pa]
          refine tk 19 46 rfl ?_; simp only [pa]
          refine sk 20 47 rfl ?_; simp only [pa]
          refine sk 21 48 rfl ?_; simp only [pa]
          refine sk 22 49 rfl ?_; simp only [pa]
          refine sk 23 50 rfl ?_; simp only [pa]
          refine sk 24 51 rfl ?_; simp only [pa]
          refine sk 25 52 rfl ?_; simp only [pa]
          refine sk 26 53 rfl ?_; simp only [pa]
          refine sk 27 54 rfl ?_; simp only [pa]
          refine tk 28 55 rfl ?_; simp only [pa]
          refine tk 29 56 rfl ?_; simp only [pa]
          refine sk 30 57 rfl ?_; simp only [pa]
          refine sk 31 58 rfl ?_; simp only [pa]
          refine sk 32 59 rfl ?_; simp only [pa]
          refine sk 33 60 rfl ?_; simp only [pa]
          refine tk 34 61 rfl ?_; simp only [pa]
          refine tk 35 62 rfl ?_; simp only [pa]
          refine sk 36 63 rfl ?_; simp only [pa]
          refine sk 37 64 rfl ?_; simp only [pa]
          refine sk 38 65 rfl ?_; simp only [pa]
          refine sk 39 66 rfl ?_; simp only [pa]
          refine sk 40 67 rfl ?_; simp only [pa]
          refine sk 41 68 rfl ?_; simp only [pa]
          refine sk 42 69 rfl ?_; simp only [pa]
          refine sk 43 70 rfl ?_; simp only [pa]
          refine sk 44 71 rfl ?_; simp only [pa]
          refine sk 45 72 rfl ?_; simp only [pa]
          refine sk 46 73 rfl ?_; simp only [pa]
          refine sk 47 74 rfl ?_; simp only [pa]
          refine sk 48 75 rfl ?_; simp only [pa]
          refine sk 49 76 rfl ?_; simp only [pa]
          refine tk 50 77 rfl ?_; simp only [pa]
          have HE := hidP (hHeld.2.2.2.2.2.2)
          refine wpAnyH_done (by kernel_rfl) ?_ _
          clear hHeld
          go_wp2_with fail
          go_ret
          exact ⟨ret_b7 HF.out.symm, HU.out.trans ((below_box7 HBel.out HBel.out.size HXB.out HE.out).mono HU.out.size)⟩
        rw [decide_eq_true (show (q.t.size : Int) ≤ 200 by have := of_decide_eq_false g3; omega)] at HE0
        have hsd : (q.l == 0) = !decide (0 < q.l) := by
          by_cases h : q.l = 0
          · rw [h]; rfl
          · rw [decide_eq_true (by omega : 0 < q.l)]; simp [h]
        clear hl0
        cases g4 : decide (0 < q.l)
        · rw [g4] at hsd HE0
          have hsd' : (q.l == 0) = true := hsd
          clear hsd g4
          cases g5 : q.t.toList.isEmpty
          · rw [g5] at HE0
            have HF : Hid (sesF N 0 ls = false) := hidP (by rw [HPo1.out, HE0.out]; simp)
            clear HPo1 HE0 HPr HI3
            go_wp2_with fail
            obtain ⟨x0, x1, x2, x3⟩ := boxSs (q := q) wr 77
            have xB := alloc_below wr (.cells #[.int .i64 q.i, .int .i64 q.l, .string q.t, .int .i64 q.u] 77)
            have xL := alloc_lt wr (.cells #[.int .i64 q.i, .int .i64 q.l, .string q.t, .int .i64 q.u] 77)
            have xS : (wr.alloc (.cells #[.int .i64 q.i, .int .i64 q.l, .string q.t, .int .i64 q.u] 77)).heap.size = wr.heap.size + 1 := by simp
            generalize wr.alloc (.cells #[.int .i64 q.i, .int .i64 q.l, .string q.t, .int .i64 q.u] 77) = W2 at *
            have D0 := (xB.cell BL).trans B0
            have D1 := (xB.cell BL).trans B1
            have DL : w.heap.size < W2.heap.size := Nat.lt_of_lt_of_le BL xB.size
            have HXB := hidP xB
            clear xS xB
            have HSx : Hid (∀ x, Below W2.heap.size W2 x → (x.cell? ⟨w.heap.size, 0, none⟩ = some (.slice (some ⟨p, o, none⟩) n c) ∧ x.cell? ⟨w.heap.size, 1, none⟩ = some (.int .i64 N) ∧ x.cell? ⟨wr.heap.size, 0, none⟩ = some (.int .i64 q.i) ∧ x.cell? ⟨wr.heap.size, 1, none⟩ = some (.int .i64 q.l) ∧ x.cell? ⟨wr.heap.size, 2, none⟩ = some (.string q.t) ∧ x.cell? ⟨wr.heap.size, 3, none⟩ = some (.int .i64 q.u) ∧ Below W2.heap.size W2 x)) := hidP fun x h =>
              ⟨(h.cell DL).trans D0, (h.cell DL).trans D1, (h.cell xL).trans x0, (h.cell xL).trans x1, (h.cell xL).trans x2, (h.cell xL).trans x3, h⟩
            refine wp_region_held_drew (S := (fun x => x.cell? ⟨w.heap.size, 0, none⟩ = some (.slice (some ⟨p, o, none⟩) n c) ∧ x.cell? ⟨w.heap.size, 1, none⟩ = some (.int .i64 N) ∧ x.cell? ⟨wr.heap.size, 0, none⟩ = some (.int .i64 q.i) ∧ x.cell? ⟨wr.heap.size, 1, none⟩ = some (.int .i64 q.l) ∧ x.cell? ⟨wr.heap.size, 2, none⟩ = some (.string q.t) ∧ x.cell? ⟨wr.heap.size, 3, none⟩ = some (.int .i64 q.u) ∧ Below W2.heap.size W2 x)) (by kernel_rfl) ?_ (fun hHeld => ?_)
            · try dsimp only
              exact HSx.out _ ((Below.refl _ _).drew)
            refine tk 0 27 rfl ?_; simp only [pa]
            refine tk 1 28 rfl ?_; simp only [pa]
            refine tk 2 29 rfl ?_; simp only [pa]
            refine tk 3 30 rfl ?_; simp only [pa]
            refine tk 4 31 rfl ?_; simp only [pa]
            refine wpAnyH_ready (rs := [5]) (by kernel_rfl) (by simp) ?_
            refine AllReadyH.cons rfl (fun K hK => ?_) AllReadyH.nil
            go_simp
            go_wp2_with (first | (go_at_call 87; refine (HI1.out _).mono ?_; rintro e w' ⟨rfl, rfl⟩))
            refine hK.out _ _ ?_ (fun hHeld => ?_)
            · try dsimp only
              exact HSx.out _ (hHeld.2.2.2.2.2.2)
            clear hK K
            refine tk 6 33 rfl ?_; simp only [pa]
            refine tk 7 34 rfl ?_; simp only [pa]
            refine tk 8 35 rfl ?_; simp only [pa]
            refine tk 9 36 rfl ?_; simp only [pa]
            refine wpAnyH_ready (rs := [10]) (by kernel_rfl) (by simp) ?_
            refine AllReadyH.cons rfl (fun K hK => ?_) AllReadyH.nil
            go_simp
            go_wp2_with (first | (go_at_call 87; refine (HI2.out _).mono ?_; rintro e w' ⟨rfl, rfl⟩))
            refine hK.out _ _ ?_ (fun hHeld => ?_)
            · try dsimp only
              exact HSx.out _ (hHeld.2.2.2.2.2.2)
            clear hK K
            refine tk 11 38 rfl ?_; simp only [pa]
            refine tk 12 39 rfl ?_; simp only [pa]
            refine tk 13 40 rfl ?_; simp only [pa]
            refine tk 14 41 rfl ?_; simp only [pa]
            refine tk 15 42 rfl ?_; simp only [pa]
            refine tk 16 43 rfl ?_; simp only [pa]
            refine tk 17 44 rfl ?_; simp only [pa]
            refine tk 18 45 rfl ?_; simp only [pa]
            refine tk 19 46 rfl ?_; simp only [pa]
            refine tk 20 47 rfl ?_; simp only [pa]
            refine tk 21 48 rfl ?_; simp only [pa]
            refine tk 22 49 rfl ?_; simp only [pa]
            refine tk 23 50 rfl ?_; simp only [pa]
            refine tk 24 51 rfl ?_; simp only [pa]
            refine tk 25 52 rfl ?_; simp only [pa]
            refine tk 26 53 rfl ?_; simp only [pa]
            refine tk 27 54 rfl ?_; simp only [pa]
            refine tk 28 55 rfl ?_; simp only [pa]
            refine tk 29 56 rfl ?_; simp only [pa]
            refine sk 30 57 rfl ?_; simp only [pa]
            refine sk 31 58 rfl ?_; simp only [pa]
            refine sk 32 59 rfl ?_; simp only [pa]
            refine sk 33 60 rfl ?_; simp only [pa]
            refine tk 34 61 rfl ?_; simp only [pa]
            refine tk 35 62 rfl ?_; simp only [pa]
            refine sk 36 63 rfl ?_; simp only [pa]
            refine sk 37 64 rfl ?_; simp only [pa]
            refine sk 38 65 rfl ?_; simp only [pa]
            refine sk 39 66 rfl ?_; simp only [pa]
            refine sk 40 67 rfl ?_; simp only [pa]
            refine sk 41 68 rfl ?_; simp only [pa]
            refine sk 42 69 rfl ?_; simp only [pa]
            refine sk 43 70 rfl ?_; simp only [pa]
            refine sk 44 71 rfl ?_; simp only [pa]
            refine sk 45 72 rfl ?_; simp only [pa]
            refine sk 46 73 rfl ?_; simp only [pa]
            refine sk 47 74 rfl ?_; simp only [pa]
            refine sk 48 75 rfl ?_; simp only [pa]
            refine sk 49 76 rfl ?_; simp only [pa]
            refine tk 50 77 rfl ?_; simp only [pa]
            have HE := hidP (hHeld.2.2.2.2.2.2)
            refine wpAnyH_done (by kernel_rfl) ?_ _
            clear hHeld
            go_wp2_with fail
            go_ret
            exact ⟨ret_b7 HF.out.symm, HU.out.trans ((below_box7 HBel.out HBel.out.size HXB.out HE.out).mono HU.out.size)⟩
          rw [g5] at HE0
          have HE1 : Hid (okSs q = (decide (0 ≤ q.u) && decide (q.u ≤ 1000000000))) := hidP (by rw [HE0.out]; simp)
          clear HE0
          cases g6 : (decide (0 ≤ q.u) && decide (q.u ≤ 1000000000))
          · rw [g6] at HI3 HE1
            have HF : Hid (sesF N 0 ls = false) := hidP (by rw [HPo1.out, HE1.out]; simp)
            clear HPo1 HE1 HPr
            go_wp2_with fail
            obtain ⟨x0, x1, x2, x3⟩ := boxSs (q := q) wr 77
            have xB := alloc_below wr (.cells #[.int .i64 q.i, .int .i64 q.l, .string q.t, .int .i64 q.u] 77)
            have xL := alloc_lt wr (.cells #[.int .i64 q.i, .int .i64 q.l, .string q.t, .int .i64 q.u] 77)
            have xS : (wr.alloc (.cells #[.int .i64 q.i, .int .i64 q.l, .string q.t, .int .i64 q.u] 77)).heap.size = wr.heap.size + 1 := by simp
            generalize wr.alloc (.cells #[.int .i64 q.i, .int .i64 q.l, .string q.t, .int .i64 q.u] 77) = W2 at *
            have D0 := (xB.cell BL).trans B0
            have D1 := (xB.cell BL).trans B1
            have DL : w.heap.size < W2.heap.size := Nat.lt_of_lt_of_le BL xB.size
            have HXB := hidP xB
            clear xS xB
            have HSx : Hid (∀ x, Below W2.heap.size W2 x → (x.cell? ⟨w.heap.size, 0, none⟩ = some (.slice (some ⟨p, o, none⟩) n c) ∧ x.cell? ⟨w.heap.size, 1, none⟩ = some (.int .i64 N) ∧ x.cell? ⟨wr.heap.size, 0, none⟩ = some (.int .i64 q.i) ∧ x.cell? ⟨wr.heap.size, 1, none⟩ = some (.int .i64 q.l) ∧ x.cell? ⟨wr.heap.size, 2, none⟩ = some (.string q.t) ∧ x.cell? ⟨wr.heap.size, 3, none⟩ = some (.int .i64 q.u) ∧ Below W2.heap.size W2 x)) := hidP fun x h =>
              ⟨(h.cell DL).trans D0, (h.cell DL).trans D1, (h.cell xL).trans x0, (h.cell xL).trans x1, (h.cell xL).trans x2, (h.cell xL).trans x3, h⟩
            refine wp_region_held_drew (S := (fun x => x.cell? ⟨w.heap.size, 0, none⟩ = some (.slice (some ⟨p, o, none⟩) n c) ∧ x.cell? ⟨w.heap.size, 1, none⟩ = some (.int .i64 N) ∧ x.cell? ⟨wr.heap.size, 0, none⟩ = some (.int .i64 q.i) ∧ x.cell? ⟨wr.heap.size, 1, none⟩ = some (.int .i64 q.l) ∧ x.cell? ⟨wr.heap.size, 2, none⟩ = some (.string q.t) ∧ x.cell? ⟨wr.heap.size, 3, none⟩ = some (.int .i64 q.u) ∧ Below W2.heap.size W2 x)) (by kernel_rfl) ?_ (fun hHeld => ?_)
            · try dsimp only
              exact HSx.out _ ((Below.refl _ _).drew)
            refine tk 0 27 rfl ?_; simp only [pa]
            refine tk 1 28 rfl ?_; simp only [pa]
            refine tk 2 29 rfl ?_; simp only [pa]
            refine tk 3 30 rfl ?_; simp only [pa]
            refine tk 4 31 rfl ?_; simp only [pa]
            refine wpAnyH_ready (rs := [5]) (by kernel_rfl) (by simp) ?_
            refine AllReadyH.cons rfl (fun K hK => ?_) AllReadyH.nil
            go_simp
            go_wp2_with (first | (go_at_call 87; refine (HI1.out _).mono ?_; rintro e w' ⟨rfl, rfl⟩))
            refine hK.out _ _ ?_ (fun hHeld => ?_)
            · try dsimp only
              exact HSx.out _ (hHeld.2.2.2.2.2.2)
            clear hK K
            refine tk 6 33 rfl ?_; simp only [pa]
            refine tk 7 34 rfl ?_; simp only [pa]
            refine tk 8 35 rfl ?_; simp only [pa]
            refine tk 9 36 rfl ?_; simp only [pa]
            refine wpAnyH_ready (rs := [10]) (by kernel_rfl) (by simp) ?_
            refine AllReadyH.cons rfl (fun K hK => ?_) AllReadyH.nil
            go_simp
            go_wp2_with (first | (go_at_call 87; refine (HI2.out _).mono ?_; rintro e w' ⟨rfl, rfl⟩))
            refine hK.out _ _ ?_ (fun hHeld => ?_)
            · try dsimp only
              exact HSx.out _ (hHeld.2.2.2.2.2.2)
            clear hK K
            refine tk 11 38 rfl ?_; simp only [pa]
            refine tk 12 39 rfl ?_; simp only [pa]
            refine tk 13 40 rfl ?_; simp only [pa]
            refine tk 14 41 rfl ?_; simp only [pa]
            refine tk 15 42 rfl ?_; simp only [pa]
            refine tk 16 43 rfl ?_; simp only [pa]
            refine tk 17 44 rfl ?_; simp only [pa]
            refine tk 18 45 rfl ?_; simp only [pa]
            refine tk 19 46 rfl ?_; simp only [pa]
            refine tk 20 47 rfl ?_; simp only [pa]
            refine tk 21 48 rfl ?_; simp only [pa]
            refine tk 22 49 rfl ?_; simp only [pa]
            refine tk 23 50 rfl ?_; simp only [pa]
            refine tk 24 51 rfl ?_; simp only [pa]
            refine tk 25 52 rfl ?_; simp only [pa]
            refine tk 26 53 rfl ?_; simp only [pa]
            refine tk 27 54 rfl ?_; simp only [pa]
            refine tk 28 55 rfl ?_; simp only [pa]
            refine tk 29 56 rfl ?_; simp only [pa]
            refine tk 30 57 rfl ?_; simp only [pa]
            refine tk 31 58 rfl ?_; simp only [pa]
            refine wpAnyH_ready (rs := [32]) (by kernel_rfl) (by simp) ?_
            refine AllReadyH.cons rfl (fun K hK => ?_) AllReadyH.nil
            go_simp
            go_wp2_with (first | (go_at_call 87; refine (HI3.out _).mono ?_; rintro e w' ⟨rfl, rfl⟩))
            refine hK.out _ _ ?_ (fun hHeld => ?_)
            · try dsimp only
              exact HSx.out _ (hHeld.2.2.2.2.2.2)
            clear hK K
            refine tk 33 60 rfl ?_; simp only [pa]
            refine tk 34 61 rfl ?_; simp only [pa]
            refine tk 35 62 rfl ?_; simp only [pa]
            refine sk 36 63 rfl ?_; simp only [pa]
            refine sk 37 64 rfl ?_; simp only [pa]
            refine sk 38 65 rfl ?_; simp only [pa]
            refine sk 39 66 rfl ?_; simp only [pa]
            refine sk 40 67 rfl ?_; simp only [pa]
            refine sk 41 68 rfl ?_; simp only [pa]
            refine sk 42 69 rfl ?_; simp only [pa]
            refine sk 43 70 rfl ?_; simp only [pa]
            refine sk 44 71 rfl ?_; simp only [pa]
            refine sk 45 72 rfl ?_; simp only [pa]
            refine sk 46 73 rfl ?_; simp only [pa]
            refine sk 47 74 rfl ?_; simp only [pa]
            refine sk 48 75 rfl ?_; simp only [pa]
            refine sk 49 76 rfl ?_; simp only [pa]
            refine tk 50 77 rfl ?_; simp only [pa]
            have HE := hidP (hHeld.2.2.2.2.2.2)
            refine wpAnyH_done (by kernel_rfl) ?_ _
            clear hHeld
            go_wp2_with fail
            go_ret
            exact ⟨ret_b7 HF.out.symm, HU.out.trans ((below_box7 HBel.out HBel.out.size HXB.out HE.out).mono HU.out.size)⟩
          rw [g6] at HI3 HE1
          have HPo2 : Hid (sesF N 0 ls = (decide (prvS ls k < q.i) && sesF N q.i (ls.drop (k + 1)))) := hidP (by rw [HPo1.out, HE1.out]; simp)
          clear HPo1 HE1 g6
          by_cases hk0 : k = 0
          · have g0 : decide ((0 : Int) < (k : Int)) = false := decide_eq_false (by omega)
            have g00 : decide (0 < k) = false := decide_eq_false (by omega)
            have HF : Hid (sesF N 0 ls = sesF N q.i (ls.drop (k + 1))) := hidP (by rw [HPo2.out, hk0, decide_eq_true (show prvS ls 0 < q.i from by have := HG1.out.2; show (0 : Int) < q.i; omega)]; rfl)
            clear HPo2 HPr hk0
            go_wp2_with fail
            obtain ⟨x0, x1, x2, x3⟩ := boxSs (q := q) wr 77
            have xB := alloc_below wr (.cells #[.int .i64 q.i, .int .i64 q.l, .string q.t, .int .i64 q.u] 77)
            have xL := alloc_lt wr (.cells #[.int .i64 q.i, .int .i64 q.l, .string q.t, .int .i64 q.u] 77)
            have xS : (wr.alloc (.cells #[.int .i64 q.i, .int .i64 q.l, .string q.t, .int .i64 q.u] 77)).heap.size = wr.heap.size + 1 := by simp
            generalize wr.alloc (.cells #[.int .i64 q.i, .int .i64 q.l, .string q.t, .int .i64 q.u] 77) = W2 at *
            have D0 := (xB.cell BL).trans B0
            have D1 := (xB.cell BL).trans B1
            have DL : w.heap.size < W2.heap.size := Nat.lt_of_lt_of_le BL xB.size
            have HXB := hidP xB
            clear xS xB
            have HSx : Hid (∀ x, Below W2.heap.size W2 x → (x.cell? ⟨w.heap.size, 0, none⟩ = some (.slice (some ⟨p, o, none⟩) n c) ∧ x.cell? ⟨w.heap.size, 1, none⟩ = some (.int .i64 N) ∧ x.cell? ⟨wr.heap.size, 0, none⟩ = some (.int .i64 q.i) ∧ x.cell? ⟨wr.heap.size, 1, none⟩ = some (.int .i64 q.l) ∧ x.cell? ⟨wr.heap.size, 2, none⟩ = some (.string q.t) ∧ x.cell? ⟨wr.heap.size, 3, none⟩ = some (.int .i64 q.u) ∧ Below W2.heap.size W2 x)) := hidP fun x h =>
              ⟨(h.cell DL).trans D0, (h.cell DL).trans D1, (h.cell xL).trans x0, (h.cell xL).trans x1, (h.cell xL).trans x2, (h.cell xL).trans x3, h⟩
            refine wp_region_held_drew (S := (fun x => x.cell? ⟨w.heap.size, 0, none⟩ = some (.slice (some ⟨p, o, none⟩) n c) ∧ x.cell? ⟨w.heap.size, 1, none⟩ = some (.int .i64 N) ∧ x.cell? ⟨wr.heap.size, 0, none⟩ = some (.int .i64 q.i) ∧ x.cell? ⟨wr.heap.size, 1, none⟩ = some (.int .i64 q.l) ∧ x.cell? ⟨wr.heap.size, 2, none⟩ = some (.string q.t) ∧ x.cell? ⟨wr.heap.size, 3, none⟩ = some (.int .i64 q.u) ∧ Below W2.heap.size W2 x)) (by kernel_rfl) ?_ (fun hHeld => ?_)
            · try dsimp only
              exact HSx.out _ ((Below.refl _ _).drew)
            refine tk 0 27 rfl ?_; simp only [pa]
            refine tk 1 28 rfl ?_; simp only [pa]
            refine tk 2 29 rfl ?_; simp only [pa]
            refine tk 3 30 rfl ?_; simp only [pa]
            refine tk 4 31 rfl ?_; simp only [pa]
            refine wpAnyH_ready (rs := [5]) (by kernel_rfl) (by simp) ?_
            refine AllReadyH.cons rfl (fun K hK => ?_) AllReadyH.nil
            go_simp
            go_wp2_with (first | (go_at_call 87; refine (HI1.out _).mono ?_; rintro e w' ⟨rfl, rfl⟩))
            refine hK.out _ _ ?_ (fun hHeld => ?_)
            · try dsimp only
              exact HSx.out _ (hHeld.2.2.2.2.2.2)
            clear hK K
            refine tk 6 33 rfl ?_; simp only [pa]
            refine tk 7 34 rfl ?_; simp only [pa]
            refine tk 8 35 rfl ?_; simp only [pa]
            refine tk 9 36 rfl ?_; simp only [pa]
            refine wpAnyH_ready (rs := [10]) (by kernel_rfl) (by simp) ?_
            refine AllReadyH.cons rfl (fun K hK => ?_) AllReadyH.nil
            go_simp
            go_wp2_with (first | (go_at_call 87; refine (HI2.out _).mono ?_; rintro e w' ⟨rfl, rfl⟩))
            refine hK.out _ _ ?_ (fun hHeld => ?_)
            · try dsimp only
              exact HSx.out _ (hHeld.2.2.2.2.2.2)
            clear hK K
            refine tk 11 38 rfl ?_; simp only [pa]
            refine tk 12 39 rfl ?_; simp only [pa]
            refine tk 13 40 rfl ?_; simp only [pa]
            refine tk 14 41 rfl ?_; simp only [pa]
            refine tk 15 42 rfl ?_; simp only [pa]
            refine tk 16 43 rfl ?_; simp only [pa]
            refine tk 17 44 rfl ?_; simp only [pa]
            refine tk 18 45 rfl ?_; simp only [pa]
            refine tk 19 46 rfl ?_; simp only [pa]
            refine tk 20 47 rfl ?_; simp only [pa]
            refine tk 21 48 rfl ?_; simp only [pa]
            refine tk 22 49 rfl ?_; simp only [pa]
            refine tk 23 50 rfl ?_; simp only [pa]
            refine tk 24 51 rfl ?_; simp only [pa]
            refine tk 25 52 rfl ?_; simp only [pa]
            refine tk 26 53 rfl ?_; simp only [pa]
            refine tk 27 54 rfl ?_; simp only [pa]
            refine tk 28 55 rfl ?_; simp only [pa]
            refine tk 29 56 rfl ?_; simp only [pa]
            refine tk 30 57 rfl ?_; simp only [pa]
            refine tk 31 58 rfl ?_; simp only [pa]
            refine wpAnyH_ready (rs := [32]) (by kernel_rfl) (by simp) ?_
            refine AllReadyH.cons rfl (fun K hK => ?_) AllReadyH.nil
            go_simp
            go_wp2_with (first | (go_at_call 87; refine (HI3.out _).mono ?_; rintro e w' ⟨rfl, rfl⟩))
            refine hK.out _ _ ?_ (fun hHeld => ?_)
            · try dsimp only
              exact HSx.out _ (hHeld.2.2.2.2.2.2)
            clear hK K
            refine tk 33 60 rfl ?_; simp only [pa]
            refine tk 34 61 rfl ?_; simp only [pa]
            refine tk 35 62 rfl ?_; simp only [pa]
            refine tk 36 63 rfl ?_; simp only [pa]
            refine tk 37 64 rfl ?_; simp only [pa]
            refine tk 38 65 rfl ?_; simp only [pa]
            refine sk 39 66 rfl ?_; simp only [pa]
            refine sk 40 67 rfl ?_; simp only [pa]
            refine sk 41 68 rfl ?_; simp only [pa]
            refine sk 42 69 rfl ?_; simp only [pa]
            refine sk 43 70 rfl ?_; simp only [pa]
            refine sk 44 71 rfl ?_; simp only [pa]
            refine sk 45 72 rfl ?_; simp only [pa]
            refine sk 46 73 rfl ?_; simp only [pa]
            refine sk 47 74 rfl ?_; simp only [pa]
            refine sk 48 75 rfl ?_; simp only [pa]
            refine tk 49 76 rfl ?_; simp only [pa]
            refine tk 50 77 rfl ?_; simp only [pa]
            have HE := hidP (hHeld.2.2.2.2.2.2)
            refine wpAnyH_done (by kernel_rfl) ?_ _
            clear hHeld
            go_wp2_with fail
            go_roundw
            case rel => exact ⟨k + 1, by omega, by go_num, by rw [HF.out, HNx.out], (by rw [HNx.out]; have := HG1.out.2; omega), below_box7 HBel.out HBel.out.size HXB.out HE.out⟩
            case measure => simp [intOf]; omega
          · have g0 : decide ((0 : Int) < (k : Int)) = true := decide_eq_true (by omega)
            have g00 : decide (0 < k) = true := decide_eq_true (by omega)
            obtain ⟨J, hJ⟩ : ∃ J, J = k - 1 := ⟨_, rfl⟩
            have hkJ : k = J + 1 := by omega
            have hJi : (k : Int) - 1 = (J : Int) := by omega
            have hJn : J < n := by omega
            have wJ : IntKind.i64.wrap (J : Int) = (J : Int) := by rw [IntKind.wrap_i64]; omega
            have hJ0 : (0 : Int) ≤ (J : Int) := by omega
            have hJ1 : (J : Int) < (n : Int) := by omega
            obtain ⟨p', o', r, he, hp', hr, c0, c1, c2, c3⟩ := rowSs HR1.out J (by rw [← HN.out]; exact hJn)
            simp only [Option.some.injEq, Addr.mk.injEq, and_true] at he
            obtain ⟨rfl, rfl⟩ := he
            have hprv : prvS ls k = r.i := by rw [hkJ]; exact prvS_next hr
            have e0 := (HBel.out.cell hp').trans c0
            have HPo3 : Hid (sesF N 0 ls = (decide (r.i < q.i) && sesF N q.i (ls.drop (k + 1)))) := hidP (by rw [HPo2.out, hprv])
            clear c0 c1 c2 c3 hr hprv hJ hkJ hk0 HPo2 HPr
            cases g8 : decide (q.i ≤ r.i)
            · have HF : Hid (sesF N 0 ls = sesF N q.i (ls.drop (k + 1))) := hidP (by rw [HPo3.out, decide_eq_true (show r.i < q.i by have := of_decide_eq_false g8; omega)]; rfl)
              clear HPo3
              go_wp2_with fail
              obtain ⟨x0, x1, x2, x3⟩ := boxSs (q := q) wr 77
              have xB := alloc_below wr (.cells #[.int .i64 q.i, .int .i64 q.l, .string q.t, .int .i64 q.u] 77)
              have xL := alloc_lt wr (.cells #[.int .i64 q.i, .int .i64 q.l, .string q.t, .int .i64 q.u] 77)
              have xS : (wr.alloc (.cells #[.int .i64 q.i, .int .i64 q.l, .string q.t, .int .i64 q.u] 77)).heap.size = wr.heap.size + 1 := by simp
              generalize wr.alloc (.cells #[.int .i64 q.i, .int .i64 q.l, .string q.t, .int .i64 q.u] 77) = W2 at *
              have D0 := (xB.cell BL).trans B0
              have D1 := (xB.cell BL).trans B1
              have DL : w.heap.size < W2.heap.size := Nat.lt_of_lt_of_le BL xB.size
              have HXB := hidP xB
              have y0 := (xB.cell hpw).trans e0
              have yL : p < W2.heap.size := Nat.lt_of_lt_of_le hpw xB.size
              clear xS xB
              have HSx : Hid (∀ x, Below W2.heap.size W2 x → (x.cell? ⟨w.heap.size, 0, none⟩ = some (.slice (some ⟨p, o, none⟩) n c) ∧ x.cell? ⟨w.heap.size, 1, none⟩ = some (.int .i64 N) ∧ x.cell? ⟨wr.heap.size, 0, none⟩ = some (.int .i64 q.i) ∧ x.cell? ⟨wr.heap.size, 1, none⟩ = some (.int .i64 q.l) ∧ x.cell? ⟨wr.heap.size, 2, none⟩ = some (.string q.t) ∧ x.cell? ⟨wr.heap.size, 3, none⟩ = some (.int .i64 q.u) ∧ x.cell? ⟨p, o + J * 4, none⟩ = some (.int .i64 r.i) ∧ Below W2.heap.size W2 x)) := hidP fun x h =>
                ⟨(h.cell DL).trans D0, (h.cell DL).trans D1, (h.cell xL).trans x0, (h.cell xL).trans x1, (h.cell xL).trans x2, (h.cell xL).trans x3, (h.cell yL).trans y0, h⟩
              refine wp_region_held_drew (S := (fun x => x.cell? ⟨w.heap.size, 0, none⟩ = some (.slice (some ⟨p, o, none⟩) n c) ∧ x.cell? ⟨w.heap.size, 1, none⟩ = some (.int .i64 N) ∧ x.cell? ⟨wr.heap.size, 0, none⟩ = some (.int .i64 q.i) ∧ x.cell? ⟨wr.heap.size, 1, none⟩ = some (.int .i64 q.l) ∧ x.cell? ⟨wr.heap.size, 2, none⟩ = some (.string q.t) ∧ x.cell? ⟨wr.heap.size, 3, none⟩ = some (.int .i64 q.u) ∧ x.cell? ⟨p, o + J * 4, none⟩ = some (.int .i64 r.i) ∧ Below W2.heap.size W2 x)) (by kernel_rfl) ?_ (fun hHeld => ?_)
              · try dsimp only
                exact HSx.out _ ((Below.refl _ _).drew)
              refine tk 0 27 rfl ?_; simp only [pa]
              refine tk 1 28 rfl ?_; simp only [pa]
              refine tk 2 29 rfl ?_; simp only [pa]
              refine tk 3 30 rfl ?_; simp only [pa]
              refine tk 4 31 rfl ?_; simp only [pa]
              refine wpAnyH_ready (rs := [5]) (by kernel_rfl) (by simp) ?_
              refine AllReadyH.cons rfl (fun K hK => ?_) AllReadyH.nil
              go_simp
              go_wp2_with (first | (go_at_call 87; refine (HI1.out _).mono ?_; rintro e w' ⟨rfl, rfl⟩))
              refine hK.out _ _ ?_ (fun hHeld => ?_)
              · try dsimp only
                exact HSx.out _ (hHeld.2.2.2.2.2.2.2)
              clear hK K
              refine tk 6 33 rfl ?_; simp only [pa]
              refine tk 7 34 rfl ?_; simp only [pa]
              refine tk 8 35 rfl ?_; simp only [pa]
              refine tk 9 36 rfl ?_; simp only [pa]
              refine wpAnyH_ready (rs := [10]) (by kernel_rfl) (by simp) ?_
              refine AllReadyH.cons rfl (fun K hK => ?_) AllReadyH.nil
              go_simp
              go_wp2_with (first | (go_at_call 87; refine (HI2.out _).mono ?_; rintro e w' ⟨rfl, rfl⟩))
              refine hK.out _ _ ?_ (fun hHeld => ?_)
              · try dsimp only
                exact HSx.out _ (hHeld.2.2.2.2.2.2.2)
              clear hK K
              refine tk 11 38 rfl ?_; simp only [pa]
              refine tk 12 39 rfl ?_; simp only [pa]
              refine tk 13 40 rfl ?_; simp only [pa]
              refine tk 14 41 rfl ?_; simp only [pa]
              refine tk 15 42 rfl ?_; simp only [pa]
              refine tk 16 43 rfl ?_; simp only [pa]
              refine tk 17 44 rfl ?_; simp only [pa]
              refine tk 18 45 rfl ?_; simp only [pa]
              refine tk 19 46 rfl ?_; simp only [pa]
              refine tk 20 47 rfl ?_; simp only [pa]
              refine tk 21 48 rfl ?_; simp only [pa]
              refine tk 22 49 rfl ?_; simp only [pa]
              refine tk 23 50 rfl ?_; simp only [pa]
              refine tk 24 51 rfl ?_; simp only [pa]
              refine tk 25 52 rfl ?_; simp only [pa]
              refine tk 26 53 rfl ?_; simp only [pa]
              refine tk 27 54 rfl ?_; simp only [pa]
              refine tk 28 55 rfl ?_; simp only [pa]
              refine tk 29 56 rfl ?_; simp only [pa]
              refine tk 30 57 rfl ?_; simp only [pa]
              refine tk 31 58 rfl ?_; simp only [pa]
              refine wpAnyH_ready (rs := [32]) (by kernel_rfl) (by simp) ?_
              refine AllReadyH.cons rfl (fun K hK => ?_) AllReadyH.nil
              go_simp
              go_wp2_with (first | (go_at_call 87; refine (HI3.out _).mono ?_; rintro e w' ⟨rfl, rfl⟩))
              refine hK.out _ _ ?_ (fun hHeld => ?_)
              · try dsimp only
                exact HSx.out _ (hHeld.2.2.2.2.2.2.2)
              clear hK K
              refine tk 33 60 rfl ?_; simp only [pa]
              refine tk 34 61 rfl ?_; simp only [pa]
              refine tk 35 62 rfl ?_; simp only [pa]
              refine tk 36 63 rfl ?_; simp only [pa]
              refine tk 37 64 rfl ?_; simp only [pa]
              refine tk 38 65 rfl ?_; simp only [pa]
              refine tk 39 66 rfl ?_; simp only [pa]
              refine tk 40 67 rfl ?_; simp only [pa]
              refine tk 41 68 rfl ?_; simp only [pa]
              refine tk 42 69 rfl ?_; simp only [pa]
              refine tk 43 70 rfl ?_; simp only [pa]
              refine tk 44 71 rfl ?_; simp only [pa]
              refine tk 45 72 rfl ?_; simp only [pa]
              refine tk 46 73 rfl ?_; simp only [pa]
              refine tk 47 74 rfl ?_; simp only [pa]
              refine tk 48 75 rfl ?_; simp only [pa]
              refine tk 49 76 rfl ?_; simp only [pa]
              refine tk 50 77 rfl ?_; simp only [pa]
              have HE := hidP (hHeld.2.2.2.2.2.2.2)
              refine wpAnyH_done (by kernel_rfl) ?_ _
              clear hHeld
              go_wp2_with fail
              go_roundw
              case rel => exact ⟨k + 1, by omega, by go_num, by rw [HF.out, HNx.out], (by rw [HNx.out]; have := HG1.out.2; omega), below_box7 HBel.out HBel.out.size HXB.out HE.out⟩
              case measure => simp [intOf]; omega
            · have HF : Hid (sesF N 0 ls = false) := hidP (by rw [HPo3.out, decide_eq_false (show ¬ r.i < q.i by have := of_decide_eq_true g8; omega)]; rfl)
              clear HPo3
              go_wp2_with fail
              obtain ⟨x0, x1, x2, x3⟩ := boxSs (q := q) wr 77
              have xB := alloc_below wr (.cells #[.int .i64 q.i, .int .i64 q.l, .string q.t, .int .i64 q.u] 77)
              have xL := alloc_lt wr (.cells #[.int .i64 q.i, .int .i64 q.l, .string q.t, .int .i64 q.u] 77)
              have xS : (wr.alloc (.cells #[.int .i64 q.i, .int .i64 q.l, .string q.t, .int .i64 q.u] 77)).heap.size = wr.heap.size + 1 := by simp
              generalize wr.alloc (.cells #[.int .i64 q.i, .int .i64 q.l, .string q.t, .int .i64 q.u] 77) = W2 at *
              have D0 := (xB.cell BL).trans B0
              have D1 := (xB.cell BL).trans B1
              have DL : w.heap.size < W2.heap.size := Nat.lt_of_lt_of_le BL xB.size
              have HXB := hidP xB
              have y0 := (xB.cell hpw).trans e0
              have yL : p < W2.heap.size := Nat.lt_of_lt_of_le hpw xB.size
              clear xS xB
              have HSx : Hid (∀ x, Below W2.heap.size W2 x → (x.cell? ⟨w.heap.size, 0, none⟩ = some (.slice (some ⟨p, o, none⟩) n c) ∧ x.cell? ⟨w.heap.size, 1, none⟩ = some (.int .i64 N) ∧ x.cell? ⟨wr.heap.size, 0, none⟩ = some (.int .i64 q.i) ∧ x.cell? ⟨wr.heap.size, 1, none⟩ = some (.int .i64 q.l) ∧ x.cell? ⟨wr.heap.size, 2, none⟩ = some (.string q.t) ∧ x.cell? ⟨wr.heap.size, 3, none⟩ = some (.int .i64 q.u) ∧ x.cell? ⟨p, o + J * 4, none⟩ = some (.int .i64 r.i) ∧ Below W2.heap.size W2 x)) := hidP fun x h =>
                ⟨(h.cell DL).trans D0, (h.cell DL).trans D1, (h.cell xL).trans x0, (h.cell xL).trans x1, (h.cell xL).trans x2, (h.cell xL).trans x3, (h.cell yL).trans y0, h⟩
              refine wp_region_held_drew (S := (fun x => x.cell? ⟨w.heap.size, 0, none⟩ = some (.slice (some ⟨p, o, none⟩) n c) ∧ x.cell? ⟨w.heap.size, 1, none⟩ = some (.int .i64 N) ∧ x.cell? ⟨wr.heap.size, 0, none⟩ = some (.int .i64 q.i) ∧ x.cell? ⟨wr.heap.size, 1, none⟩ = some (.int .i64 q.l) ∧ x.cell? ⟨wr.heap.size, 2, none⟩ = some (.string q.t) ∧ x.cell? ⟨wr.heap.size, 3, none⟩ = some (.int .i64 q.u) ∧ x.cell? ⟨p, o + J * 4, none⟩ = some (.int .i64 r.i) ∧ Below W2.heap.size W2 x)) (by kernel_rfl) ?_ (fun hHeld => ?_)
              · try dsimp only
                exact HSx.out _ ((Below.refl _ _).drew)
              refine tk 0 27 rfl ?_; simp only [pa]
              refine tk 1 28 rfl ?_; simp only [pa]
              refine tk 2 29 rfl ?_; simp only [pa]
              refine tk 3 30 rfl ?_; simp only [pa]
              refine tk 4 31 rfl ?_; simp only [pa]
              refine wpAnyH_ready (rs := [5]) (by kernel_rfl) (by simp) ?_
              refine AllReadyH.cons rfl (fun K hK => ?_) AllReadyH.nil
              go_simp
              go_wp2_with (first | (go_at_call 87; refine (HI1.out _).mono ?_; rintro e w' ⟨rfl, rfl⟩))
              refine hK.out _ _ ?_ (fun hHeld => ?_)
              · try dsimp only
                exact HSx.out _ (hHeld.2.2.2.2.2.2.2)
              clear hK K
              refine tk 6 33 rfl ?_; simp only [pa]
              refine tk 7 34 rfl ?_; simp only [pa]
              refine tk 8 35 rfl ?_; simp only [pa]
              refine tk 9 36 rfl ?_; simp only [pa]
              refine wpAnyH_ready (rs := [10]) (by kernel_rfl) (by simp) ?_
              refine AllReadyH.cons rfl (fun K hK => ?_) AllReadyH.nil
              go_simp
              go_wp2_with (first | (go_at_call 87; refine (HI2.out _).mono ?_; rintro e w' ⟨rfl, rfl⟩))
              refine hK.out _ _ ?_ (fun hHeld => ?_)
              · try dsimp only
                exact HSx.out _ (hHeld.2.2.2.2.2.2.2)
              clear hK K
              refine tk 11 38 rfl ?_; simp only [pa]
              refine tk 12 39 rfl ?_; simp only [pa]
              refine tk 13 40 rfl ?_; simp only [pa]
              refine tk 14 41 rfl ?_; simp only [pa]
              refine tk 15 42 rfl ?_; simp only [pa]
              refine tk 16 43 rfl ?_; simp only [pa]
              refine tk 17 44 rfl ?_; simp only [pa]
              refine tk 18 45 rfl ?_; simp only [pa]
              refine tk 19 46 rfl ?_; simp only [pa]
              refine tk 20 47 rfl ?_; simp only [pa]
              refine tk 21 48 rfl ?_; simp only [pa]
              refine tk 22 49 rfl ?_; simp only [pa]
              refine tk 23 50 rfl ?_; simp only [pa]
              refine tk 24 51 rfl ?_; simp only [pa]
              refine tk 25 52 rfl ?_; simp only [pa]
              refine tk 26 53 rfl ?_; simp only [pa]
              refine tk 27 54 rfl ?_; simp only [pa]
              refine tk 28 55 rfl ?_; simp only [pa]
              refine tk 29 56 rfl ?_; simp only [pa]
              refine tk 30 57 rfl ?_; simp only [pa]
              refine tk 31 58 rfl ?_; simp only [pa]
              refine wpAnyH_ready (rs := [32]) (by kernel_rfl) (by simp) ?_
              refine AllReadyH.cons rfl (fun K hK => ?_) AllReadyH.nil
              go_simp
              go_wp2_with (first | (go_at_call 87; refine (HI3.out _).mono ?_; rintro e w' ⟨rfl, rfl⟩))
              refine hK.out _ _ ?_ (fun hHeld => ?_)
              · try dsimp only
                exact HSx.out _ (hHeld.2.2.2.2.2.2.2)
              clear hK K
              refine tk 33 60 rfl ?_; simp only [pa]
              refine tk 34 61 rfl ?_; simp only [pa]
              refine tk 35 62 rfl ?_; simp only [pa]
              refine tk 36 63 rfl ?_; simp only [pa]
              refine tk 37 64 rfl ?_; simp only [pa]
              refine tk 38 65 rfl ?_; simp only [pa]
              refine tk 39 66 rfl ?_; simp only [pa]
              refine tk 40 67 rfl ?_; simp only [pa]
              refine tk 41 68 rfl ?_; simp only [pa]
              refine tk 42 69 rfl ?_; simp only [pa]
              refine tk 43 70 rfl ?_; simp only [pa]
              refine tk 44 71 rfl ?_; simp only [pa]
              refine tk 45 72 rfl ?_; simp only [pa]
              refine tk 46 73 rfl ?_; simp only [pa]
              refine tk 47 74 rfl ?_; simp only [pa]
              refine tk 48 75 rfl ?_; simp only [pa]
              refine tk 49 76 rfl ?_; simp only [pa]
              refine tk 50 77 rfl ?_; simp only [pa]
              have HE := hidP (hHeld.2.2.2.2.2.2.2)
              refine wpAnyH_done (by kernel_rfl) ?_ _
              clear hHeld
              go_wp2_with fail
              go_ret
              exact ⟨ret_b7 HF.out.symm, HU.out.trans ((below_box7 HBel.out HBel.out.size HXB.out HE.out).mono HU.out.size)⟩
        · rw [g4] at hsd HE0
          have hsd' : (q.l == 0) = false := hsd
          have HE1 : Hid (okSs q = (decide (0 ≤ q.u) && decide (q.u ≤ 1000000000))) := hidP (by rw [HE0.out]; simp)
          clear HE0 hsd g4
          cases g6 : (decide (0 ≤ q.u) && decide (q.u ≤ 1000000000))
          · rw [g6] at HI3 HE1
            have HF : Hid (sesF N 0 ls = false) := hidP (by rw [HPo1.out, HE1.out]; simp)
            clear HPo1 HE1 HPr
            go_wp2_with fail
            obtain ⟨x0, x1, x2, x3⟩ := boxSs (q := q) wr 77
            have xB := alloc_below wr (.cells #[.int .i64 q.i, .int .i64 q.l, .string q.t, .int .i64 q.u] 77)
            have xL := alloc_lt wr (.cells #[.int .i64 q.i, .int .i64 q.l, .string q.t, .int .i64 q.u] 77)
            have xS : (wr.alloc (.cells #[.int .i64 q.i, .int .i64 q.l, .string q.t, .int .i64 q.u] 77)).heap.size = wr.heap.size + 1 := by simp
            generalize wr.alloc (.cells #[.int .i64 q.i, .int .i64 q.l, .string q.t, .int .i64 q.u] 77) = W2 at *
            have D0 := (xB.cell BL).trans B0
            have D1 := (xB.cell BL).trans B1
            have DL : w.heap.size < W2.heap.size := Nat.lt_of_lt_of_le BL xB.size
            have HXB := hidP xB
            clear xS xB
            have HSx : Hid (∀ x, Below W2.heap.size W2 x → (x.cell? ⟨w.heap.size, 0, none⟩ = some (.slice (some ⟨p, o, none⟩) n c) ∧ x.cell? ⟨w.heap.size, 1, none⟩ = some (.int .i64 N) ∧ x.cell? ⟨wr.heap.size, 0, none⟩ = some (.int .i64 q.i) ∧ x.cell? ⟨wr.heap.size, 1, none⟩ = some (.int .i64 q.l) ∧ x.cell? ⟨wr.heap.size, 2, none⟩ = some (.string q.t) ∧ x.cell? ⟨wr.heap.size, 3, none⟩ = some (.int .i64 q.u) ∧ Below W2.heap.size W2 x)) := hidP fun x h =>
              ⟨(h.cell DL).trans D0, (h.cell DL).trans D1, (h.cell xL).trans x0, (h.cell xL).trans x1, (h.cell xL).trans x2, (h.cell xL).trans x3, h⟩
            refine wp_region_held_drew (S := (fun x => x.cell? ⟨w.heap.size, 0, none⟩ = some (.slice (some ⟨p, o, none⟩) n c) ∧ x.cell? ⟨w.heap.size, 1, none⟩ = some (.int .i64 N) ∧ x.cell? ⟨wr.heap.size, 0, none⟩ = some (.int .i64 q.i) ∧ x.cell? ⟨wr.heap.size, 1, none⟩ = some (.int .i64 q.l) ∧ x.cell? ⟨wr.heap.size, 2, none⟩ = some (.string q.t) ∧ x.cell? ⟨wr.heap.size, 3, none⟩ = some (.int .i64 q.u) ∧ Below W2.heap.size W2 x)) (by kernel_rfl) ?_ (fun hHeld => ?_)
            · try dsimp only
              exact HSx.out _ ((Below.refl _ _).drew)
            refine tk 0 27 rfl ?_; simp only [pa]
            refine tk 1 28 rfl ?_; simp only [pa]
            refine tk 2 29 rfl ?_; simp only [pa]
            refine tk 3 30 rfl ?_; simp only [pa]
            refine tk 4 31 rfl ?_; simp only [pa]
            refine wpAnyH_ready (rs := [5]) (by kernel_rfl) (by simp) ?_
            refine AllReadyH.cons rfl (fun K hK => ?_) AllReadyH.nil
            go_simp
            go_wp2_with (first | (go_at_call 87; refine (HI1.out _).mono ?_; rintro e w' ⟨rfl, rfl⟩))
            refine hK.out _ _ ?_ (fun hHeld => ?_)
            · try dsimp only
              exact HSx.out _ (hHeld.2.2.2.2.2.2)
            clear hK K
            refine tk 6 33 rfl ?_; simp only [pa]
            refine tk 7 34 rfl ?_; simp only [pa]
            refine tk 8 35 rfl ?_; simp only [pa]
            refine tk 9 36 rfl ?_; simp only [pa]
            refine wpAnyH_ready (rs := [10]) (by kernel_rfl) (by simp) ?_
            refine AllReadyH.cons rfl (fun K hK => ?_) AllReadyH.nil
            go_simp
            go_wp2_with (first | (go_at_call 87; refine (HI2.out _).mono ?_; rintro e w' ⟨rfl, rfl⟩))
            refine hK.out _ _ ?_ (fun hHeld => ?_)
            · try dsimp only
              exact HSx.out _ (hHeld.2.2.2.2.2.2)
            clear hK K
            refine tk 11 38 rfl ?_; simp only [pa]
            refine tk 12 39 rfl ?_; simp only [pa]
            refine tk 13 40 rfl ?_; simp only [pa]
            refine tk 14 41 rfl ?_; simp only [pa]
            refine tk 15 42 rfl ?_; simp only [pa]
            refine tk 16 43 rfl ?_; simp only [pa]
            refine tk 17 44 rfl ?_; simp only [pa]
            refine tk 18 45 rfl ?_; simp only [pa]
            refine tk 19 46 rfl ?_; simp only [pa]
            refine tk 20 47 rfl ?_; simp only [pa]
            refine tk 21 48 rfl ?_; simp only [pa]
            refine tk 22 49 rfl ?_; simp only [pa]
            refine tk 23 50 rfl ?_; simp only [pa]
            refine sk 24 51 rfl ?_; simp only [pa]
            refine sk 25 52 rfl ?_; simp only [pa]
            refine sk 26 53 rfl ?_; simp only [pa]
            refine tk 27 54 rfl ?_; simp only [pa]
            refine tk 28 55 rfl ?_; simp only [pa]
            refine tk 29 56 rfl ?_; simp only [pa]
            refine tk 30 57 rfl ?_; simp only [pa]
            refine tk 31 58 rfl ?_; simp only [pa]
            refine wpAnyH_ready (rs := [32]) (by kernel_rfl) (by simp) ?_
            refine AllReadyH.cons rfl (fun K hK => ?_) AllReadyH.nil
            go_simp
            go_wp2_with (first | (go_at_call 87; refine (HI3.out _).mono ?_; rintro e w' ⟨rfl, rfl⟩))
            refine hK.out _ _ ?_ (fun hHeld => ?_)
            · try dsimp only
              exact HSx.out _ (hHeld.2.2.2.2.2.2)
            clear hK K
            refine tk 33 60 rfl ?_; simp only [pa]
            refine tk 34 61 rfl ?_; simp only [pa]
            refine tk 35 62 rfl ?_; simp only [pa]
            refine sk 36 63 rfl ?_; simp only [pa]
            refine sk 37 64 rfl ?_; simp only [pa]
            refine sk 38 65 rfl ?_; simp only [pa]
            refine sk 39 66 rfl ?_; simp only [pa]
            refine sk 40 67 rfl ?_; simp only [pa]
            refine sk 41 68 rfl ?_; simp only [pa]
            refine sk 42 69 rfl ?_; simp only [pa]
            refine sk 43 70 rfl ?_; simp only [pa]
            refine sk 44 71 rfl ?_; simp only [pa]
            refine sk 45 72 rfl ?_; simp only [pa]
            refine sk 46 73 rfl ?_; simp only [pa]
            refine sk 47 74 rfl ?_; simp only [pa]
            refine sk 48 75 rfl ?_; simp only [pa]
            refine sk 49 76 rfl ?_; simp only [pa]
            refine tk 50 77 rfl ?_; simp only [pa]
            have HE := hidP (hHeld.2.2.2.2.2.2)
            refine wpAnyH_done (by kernel_rfl) ?_ _
            clear hHeld
            go_wp2_with fail
            go_ret
            exact ⟨ret_b7 HF.out.symm, HU.out.trans ((below_box7 HBel.out HBel.out.size HXB.out HE.out).mono HU.out.size)⟩
          rw [g6] at HI3 HE1
          have HPo2 : Hid (sesF N 0 ls = (decide (prvS ls k < q.i) && sesF N q.i (ls.drop (k + 1)))) := hidP (by rw [HPo1.out, HE1.out]; simp)
          clear HPo1 HE1 g6
          by_cases hk0 : k = 0
          · have g0 : decide ((0 : Int) < (k : Int)) = false := decide_eq_false (by omega)
            have g00 : decide (0 < k) = false := decide_eq_false (by omega)
            have HF : Hid (sesF N 0 ls = sesF N q.i (ls.drop (k + 1))) := hidP (by rw [HPo2.out, hk0, decide_eq_true (show prvS ls 0 < q.i from by have := HG1.out.2; show (0 : Int) < q.i; omega)]; rfl)
            clear HPo2 HPr hk0
            go_wp2_with fail
            obtain ⟨x0, x1, x2, x3⟩ := boxSs (q := q) wr 77
            have xB := alloc_below wr (.cells #[.int .i64 q.i, .int .i64 q.l, .string q.t, .int .i64 q.u] 77)
            have xL := alloc_lt wr (.cells #[.int .i64 q.i, .int .i64 q.l, .string q.t, .int .i64 q.u] 77)
            have xS : (wr.alloc (.cells #[.int .i64 q.i, .int .i64 q.l, .string q.t, .int .i64 q.u] 77)).heap.size = wr.heap.size + 1 := by simp
            generalize wr.alloc (.cells #[.int .i64 q.i, .int .i64 q.l, .string q.t, .int .i64 q.u] 77) = W2 at *
            have D0 := (xB.cell BL).trans B0
            have D1 := (xB.cell BL).trans B1
            have DL : w.heap.size < W2.heap.size := Nat.lt_of_lt_of_le BL xB.size
            have HXB := hidP xB
            clear xS xB
            have HSx : Hid (∀ x, Below W2.heap.size W2 x → (x.cell? ⟨w.heap.size, 0, none⟩ = some (.slice (some ⟨p, o, none⟩) n c) ∧ x.cell? ⟨w.heap.size, 1, none⟩ = some (.int .i64 N) ∧ x.cell? ⟨wr.heap.size, 0, none⟩ = some (.int .i64 q.i) ∧ x.cell? ⟨wr.heap.size, 1, none⟩ = some (.int .i64 q.l) ∧ x.cell? ⟨wr.heap.size, 2, none⟩ = some (.string q.t) ∧ x.cell? ⟨wr.heap.size, 3, none⟩ = some (.int .i64 q.u) ∧ Below W2.heap.size W2 x)) := hidP fun x h =>
              ⟨(h.cell DL).trans D0, (h.cell DL).trans D1, (h.cell xL).trans x0, (h.cell xL).trans x1, (h.cell xL).trans x2, (h.cell xL).trans x3, h⟩
            refine wp_region_held_drew (S := (fun x => x.cell? ⟨w.heap.size, 0, none⟩ = some (.slice (some ⟨p, o, none⟩) n c) ∧ x.cell? ⟨w.heap.size, 1, none⟩ = some (.int .i64 N) ∧ x.cell? ⟨wr.heap.size, 0, none⟩ = some (.int .i64 q.i) ∧ x.cell? ⟨wr.heap.size, 1, none⟩ = some (.int .i64 q.l) ∧ x.cell? ⟨wr.heap.size, 2, none⟩ = some (.string q.t) ∧ x.cell? ⟨wr.heap.size, 3, none⟩ = some (.int .i64 q.u) ∧ Below W2.heap.size W2 x)) (by kernel_rfl) ?_ (fun hHeld => ?_)
            · try dsimp only
              exact HSx.out _ ((Below.refl _ _).drew)
            refine tk 0 27 rfl ?_; simp only [pa]
            refine tk 1 28 rfl ?_; simp only [pa]
            refine tk 2 29 rfl ?_; simp only [pa]
            refine tk 3 30 rfl ?_; simp only [pa]
            refine tk 4 31 rfl ?_; simp only [pa]
            refine wpAnyH_ready (rs := [5]) (by kernel_rfl) (by simp) ?_
            refine AllReadyH.cons rfl (fun K hK => ?_) AllReadyH.nil
            go_simp
            go_wp2_with (first | (go_at_call 87; refine (HI1.out _).mono ?_; rintro e w' ⟨rfl, rfl⟩))
            refine hK.out _ _ ?_ (fun hHeld => ?_)
            · try dsimp only
              exact HSx.out _ (hHeld.2.2.2.2.2.2)
            clear hK K
            refine tk 6 33 rfl ?_; simp only [pa]
            refine tk 7 34 rfl ?_; simp only [pa]
            refine tk 8 35 rfl ?_; simp only [pa]
            refine tk 9 36 rfl ?_; simp only [pa]
            refine wpAnyH_ready (rs := [10]) (by kernel_rfl) (by simp) ?_
            refine AllReadyH.cons rfl (fun K hK => ?_) AllReadyH.nil
            go_simp
            go_wp2_with (first | (go_at_call 87; refine (HI2.out _).mono ?_; rintro e w' ⟨rfl, rfl⟩))
            refine hK.out _ _ ?_ (fun hHeld => ?_)
            · try dsimp only
              exact HSx.out _ (hHeld.2.2.2.2.2.2)
            clear hK K
            refine tk 11 38 rfl ?_; simp only [pa]
            refine tk 12 39 rfl ?_; simp only [pa]
            refine tk 13 40 rfl ?_; simp only [pa]
            refine tk 14 41 rfl ?_; simp only [pa]
            refine tk 15 42 rfl ?_; simp only [pa]
            refine tk 16 43 rfl ?_; simp only [pa]
            refine tk 17 44 rfl ?_; simp only [pa]
            refine tk 18 45 rfl ?_; simp only [pa]
            refine tk 19 46 rfl ?_; simp only [pa]
            refine tk 20 47 rfl ?_; simp only [pa]
            refine tk 21 48 rfl ?_; simp only [pa]
            refine tk 22 49 rfl ?_; simp only [pa]
            refine tk 23 50 rfl ?_; simp only [pa]
            refine sk 24 51 rfl ?_; simp only [pa]
            refine sk 25 52 rfl ?_; simp only [pa]
            refine sk 26 53 rfl ?_; simp only [pa]
            refine tk 27 54 rfl ?_; simp only [pa]
            refine tk 28 55 rfl ?_; simp only [pa]
            refine tk 29 56 rfl ?_; simp only [pa]
            refine tk 30 57 rfl ?_; simp only [pa]
            refine tk 31 58 rfl ?_; simp only [pa]
            refine wpAnyH_ready (rs := [32]) (by kernel_rfl) (by simp) ?_
            refine AllReadyH.cons rfl (fun K hK => ?_) AllReadyH.nil
            go_simp
            go_wp2_with (first | (go_at_call 87; refine (HI3.out _).mono ?_; rintro e w' ⟨rfl, rfl⟩))
            refine hK.out _ _ ?_ (fun hHeld => ?_)
            · try dsimp only
              exact HSx.out _ (hHeld.2.2.2.2.2.2)
            clear hK K
            refine tk 33 60 rfl ?_; simp only [pa]
            refine tk 34 61 rfl ?_; simp only [pa]
            refine tk 35 62 rfl ?_; simp only [pa]
            refine tk 36 63 rfl ?_; simp only [pa]
            refine tk 37 64 rfl ?_; simp only [pa]
            refine tk 38 65 rfl ?_; simp only [pa]
            refine sk 39 66 rfl ?_; simp only [pa]
            refine sk 40 67 rfl ?_; simp only [pa]
            refine sk 41 68 rfl ?_; simp only [pa]
            refine sk 42 69 rfl ?_; simp only [pa]
            refine sk 43 70 rfl ?_; simp only [pa]
            refine sk 44 71 rfl ?_; simp only [pa]
            refine sk 45 72 rfl ?_; simp only [pa]
            refine sk 46 73 rfl ?_; simp only [pa]
            refine sk 47 74 rfl ?_; simp only [pa]
            refine sk 48 75 rfl ?_; simp only [pa]
            refine tk 49 76 rfl ?_; simp only [pa]
            refine tk 50 77 rfl ?_; simp only [pa]
            have HE := hidP (hHeld.2.2.2.2.2.2)
            refine wpAnyH_done (by kernel_rfl) ?_ _
            clear hHeld
            go_wp2_with fail
            go_roundw
            case rel => exact ⟨k + 1, by omega, by go_num, by rw [HF.out, HNx.out], (by rw [HNx.out]; have := HG1.out.2; omega), below_box7 HBel.out HBel.out.size HXB.out HE.out⟩
            case measure => simp [intOf]; omega
          · have g0 : decide ((0 : Int) < (k : Int)) = true := decide_eq_true (by omega)
            have g00 : decide (0 < k) = true := decide_eq_true (by omega)
            obtain ⟨J, hJ⟩ : ∃ J, J = k - 1 := ⟨_, rfl⟩
            have hkJ : k = J + 1 := by omega
            have hJi : (k : Int) - 1 = (J : Int) := by omega
            have hJn : J < n := by omega
            have wJ : IntKind.i64.wrap (J : Int) = (J : Int) := by rw [IntKind.wrap_i64]; omega
            have hJ0 : (0 : Int) ≤ (J : Int) := by omega
            have hJ1 : (J : Int) < (n : Int) := by omega
            obtain ⟨p', o', r, he, hp', hr, c0, c1, c2, c3⟩ := rowSs HR1.out J (by rw [← HN.out]; exact hJn)
            simp only [Option.some.injEq, Addr.mk.injEq, and_true] at he
            obtain ⟨rfl, rfl⟩ := he
            have hprv : prvS ls k = r.i := by rw [hkJ]; exact prvS_next hr
            have e0 := (HBel.out.cell hp').trans c0
            have HPo3 : Hid (sesF N 0 ls = (decide (r.i < q.i) && sesF N q.i (ls.drop (k + 1)))) := hidP (by rw [HPo2.out, hprv])
            clear c0 c1 c2 c3 hr hprv hJ hkJ hk0 HPo2 HPr
            cases g8 : decide (q.i ≤ r.i)
            · have HF : Hid (sesF N 0 ls = sesF N q.i (ls.drop (k + 1))) := hidP (by rw [HPo3.out, decide_eq_true (show r.i < q.i by have := of_decide_eq_false g8; omega)]; rfl)
              clear HPo3
              go_wp2_with fail
              obtain ⟨x0, x1, x2, x3⟩ := boxSs (q := q) wr 77
              have xB := alloc_below wr (.cells #[.int .i64 q.i, .int .i64 q.l, .string q.t, .int .i64 q.u] 77)
              have xL := alloc_lt wr (.cells #[.int .i64 q.i, .int .i64 q.l, .string q.t, .int .i64 q.u] 77)
              have xS : (wr.alloc (.cells #[.int .i64 q.i, .int .i64 q.l, .string q.t, .int .i64 q.u] 77)).heap.size = wr.heap.size + 1 := by simp
              generalize wr.alloc (.cells #[.int .i64 q.i, .int .i64 q.l, .string q.t, .int .i64 q.u] 77) = W2 at *
              have D0 := (xB.cell BL).trans B0
              have D1 := (xB.cell BL).trans B1
              have DL : w.heap.size < W2.heap.size := Nat.lt_of_lt_of_le BL xB.size
              have HXB := hidP xB
              have y0 := (xB.cell hpw).trans e0
              have yL : p < W2.heap.size := Nat.lt_of_lt_of_le hpw xB.size
              clear xS xB
              have HSx : Hid (∀ x, Below W2.heap.size W2 x → (x.cell? ⟨w.heap.size, 0, none⟩ = some (.slice (some ⟨p, o, none⟩) n c) ∧ x.cell? ⟨w.heap.size, 1, none⟩ = some (.int .i64 N) ∧ x.cell? ⟨wr.heap.size, 0, none⟩ = some (.int .i64 q.i) ∧ x.cell? ⟨wr.heap.size, 1, none⟩ = some (.int .i64 q.l) ∧ x.cell? ⟨wr.heap.size, 2, none⟩ = some (.string q.t) ∧ x.cell? ⟨wr.heap.size, 3, none⟩ = some (.int .i64 q.u) ∧ x.cell? ⟨p, o + J * 4, none⟩ = some (.int .i64 r.i) ∧ Below W2.heap.size W2 x)) := hidP fun x h =>
                ⟨(h.cell DL).trans D0, (h.cell DL).trans D1, (h.cell xL).trans x0, (h.cell xL).trans x1, (h.cell xL).trans x2, (h.cell xL).trans x3, (h.cell yL).trans y0, h⟩
              refine wp_region_held_drew (S := (fun x => x.cell? ⟨w.heap.size, 0, none⟩ = some (.slice (some ⟨p, o, none⟩) n c) ∧ x.cell? ⟨w.heap.size, 1, none⟩ = some (.int .i64 N) ∧ x.cell? ⟨wr.heap.size, 0, none⟩ = some (.int .i64 q.i) ∧ x.cell? ⟨wr.heap.size, 1, none⟩ = some (.int .i64 q.l) ∧ x.cell? ⟨wr.heap.size, 2, none⟩ = some (.string q.t) ∧ x.cell? ⟨wr.heap.size, 3, none⟩ = some (.int .i64 q.u) ∧ x.cell? ⟨p, o + J * 4, none⟩ = some (.int .i64 r.i) ∧ Below W2.heap.size W2 x)) (by kernel_rfl) ?_ (fun hHeld => ?_)
              · try dsimp only
                exact HSx.out _ ((Below.refl _ _).drew)
              refine tk 0 27 rfl ?_; simp only [pa]
              refine tk 1 28 rfl ?_; simp only [pa]
              refine tk 2 29 rfl ?_; simp only [pa]
              refine tk 3 30 rfl ?_; simp only [pa]
              refine tk 4 31 rfl ?_; simp only [pa]
              refine wpAnyH_ready (rs := [5]) (by kernel_rfl) (by simp) ?_
              refine AllReadyH.cons rfl (fun K hK => ?_) AllReadyH.nil
              go_simp
              go_wp2_with (first | (go_at_call 87; refine (HI1.out _).mono ?_; rintro e w' ⟨rfl, rfl⟩))
              refine hK.out _ _ ?_ (fun hHeld => ?_)
              · try dsimp only
                exact HSx.out _ (hHeld.2.2.2.2.2.2.2)
              clear hK K
              refine tk 6 33 rfl ?_; simp only [pa]
              refine tk 7 34 rfl ?_; simp only [pa]
              refine tk 8 35 rfl ?_; simp only [pa]
              refine tk 9 36 rfl ?_; simp only [pa]
              refine wpAnyH_ready (rs := [10]) (by kernel_rfl) (by simp) ?_
              refine AllReadyH.cons rfl (fun K hK => ?_) AllReadyH.nil
              go_simp
              go_wp2_with (first | (go_at_call 87; refine (HI2.out _).mono ?_; rintro e w' ⟨rfl, rfl⟩))
              refine hK.out _ _ ?_ (fun hHeld => ?_)
              · try dsimp only
                exact HSx.out _ (hHeld.2.2.2.2.2.2.2)
              clear hK K
              refine tk 11 38 rfl ?_; simp only [pa]
              refine tk 12 39 rfl ?_; simp only [pa]
              refine tk 13 40 rfl ?_; simp only [pa]
              refine tk 14 41 rfl ?_; simp only [pa]
              refine tk 15 42 rfl ?_; simp only [pa]
              refine tk 16 43 rfl ?_; simp only [pa]
              refine tk 17 44 rfl ?_; simp only [pa]
              refine tk 18 45 rfl ?_; simp only [pa]
              refine tk 19 46 rfl ?_; simp only [pa]
              refine tk 20 47 rfl ?_; simp only [pa]
              refine tk 21 48 rfl ?_; simp only [pa]
              refine tk 22 49 rfl ?_; simp only [pa]
              refine tk 23 50 rfl ?_; simp only [pa]
              refine sk 24 51 rfl ?_; simp only [pa]
              refine sk 25 52 rfl ?_; simp only [pa]
              refine sk 26 53 rfl ?_; simp only [pa]
              refine tk 27 54 rfl ?_; simp only [pa]
              refine tk 28 55 rfl ?_; simp only [pa]
              refine tk 29 56 rfl ?_; simp only [pa]
              refine tk 30 57 rfl ?_; simp only [pa]
              refine tk 31 58 rfl ?_; simp only [pa]
              refine wpAnyH_ready (rs := [32]) (by kernel_rfl) (by simp) ?_
              refine AllReadyH.cons rfl (fun K hK => ?_) AllReadyH.nil
              go_simp
              go_wp2_with (first | (go_at_call 87; refine (HI3.out _).mono ?_; rintro e w' ⟨rfl, rfl⟩))
              refine hK.out _ _ ?_ (fun hHeld => ?_)
              · try dsimp only
                exact HSx.out _ (hHeld.2.2.2.2.2.2.2)
              clear hK K
              refine tk 33 60 rfl ?_; simp only [pa]
              refine tk 34 61 rfl ?_; simp only [pa]
              refine tk 35 62 rfl ?_; simp only [pa]
              refine tk 36 63 rfl ?_; simp only [pa]
              refine tk 37 64 rfl ?_; simp only [pa]
              refine tk 38 65 rfl ?_; simp only [pa]
              refine tk 39 66 rfl ?_; simp only [pa]
              refine tk 40 67 rfl ?_; simp only [pa]
              refine tk 41 68 rfl ?_; simp only [pa]
              refine tk 42 69 rfl ?_; simp only [pa]
              refine tk 43 70 rfl ?_; simp only [pa]
              refine tk 44 71 rfl ?_; simp only [pa]
              refine tk 45 72 rfl ?_; simp only [pa]
              refine tk 46 73 rfl ?_; simp only [pa]
              refine tk 47 74 rfl ?_; simp only [pa]
              refine tk 48 75 rfl ?_; simp only [pa]
              refine tk 49 76 rfl ?_; simp only [pa]
              refine tk 50 77 rfl ?_; simp only [pa]
              have HE := hidP (hHeld.2.2.2.2.2.2.2)
              refine wpAnyH_done (by kernel_rfl) ?_ _
              clear hHeld
              go_wp2_with fail
              go_roundw
              case rel => exact ⟨k + 1, by omega, by go_num, by rw [HF.out, HNx.out], (by rw [HNx.out]; have := HG1.out.2; omega), below_box7 HBel.out HBel.out.size HXB.out HE.out⟩
              case measure => simp [intOf]; omega
            · have HF : Hid (sesF N 0 ls = false) := hidP (by rw [HPo3.out, decide_eq_false (show ¬ r.i < q.i by have := of_decide_eq_true g8; omega)]; rfl)
              clear HPo3
              go_wp2_with fail
              obtain ⟨x0, x1, x2, x3⟩ := boxSs (q := q) wr 77
              have xB := alloc_below wr (.cells #[.int .i64 q.i, .int .i64 q.l, .string q.t, .int .i64 q.u] 77)
              have xL := alloc_lt wr (.cells #[.int .i64 q.i, .int .i64 q.l, .string q.t, .int .i64 q.u] 77)
              have xS : (wr.alloc (.cells #[.int .i64 q.i, .int .i64 q.l, .string q.t, .int .i64 q.u] 77)).heap.size = wr.heap.size + 1 := by simp
              generalize wr.alloc (.cells #[.int .i64 q.i, .int .i64 q.l, .string q.t, .int .i64 q.u] 77) = W2 at *
              have D0 := (xB.cell BL).trans B0
              have D1 := (xB.cell BL).trans B1
              have DL : w.heap.size < W2.heap.size := Nat.lt_of_lt_of_le BL xB.size
              have HXB := hidP xB
              have y0 := (xB.cell hpw).trans e0
              have yL : p < W2.heap.size := Nat.lt_of_lt_of_le hpw xB.size
              clear xS xB
              have HSx : Hid (∀ x, Below W2.heap.size W2 x → (x.cell? ⟨w.heap.size, 0, none⟩ = some (.slice (some ⟨p, o, none⟩) n c) ∧ x.cell? ⟨w.heap.size, 1, none⟩ = some (.int .i64 N) ∧ x.cell? ⟨wr.heap.size, 0, none⟩ = some (.int .i64 q.i) ∧ x.cell? ⟨wr.heap.size, 1, none⟩ = some (.int .i64 q.l) ∧ x.cell? ⟨wr.heap.size, 2, none⟩ = some (.string q.t) ∧ x.cell? ⟨wr.heap.size, 3, none⟩ = some (.int .i64 q.u) ∧ x.cell? ⟨p, o + J * 4, none⟩ = some (.int .i64 r.i) ∧ Below W2.heap.size W2 x)) := hidP fun x h =>
                ⟨(h.cell DL).trans D0, (h.cell DL).trans D1, (h.cell xL).trans x0, (h.cell xL).trans x1, (h.cell xL).trans x2, (h.cell xL).trans x3, (h.cell yL).trans y0, h⟩
              refine wp_region_held_drew (S := (fun x => x.cell? ⟨w.heap.size, 0, none⟩ = some (.slice (some ⟨p, o, none⟩) n c) ∧ x.cell? ⟨w.heap.size, 1, none⟩ = some (.int .i64 N) ∧ x.cell? ⟨wr.heap.size, 0, none⟩ = some (.int .i64 q.i) ∧ x.cell? ⟨wr.heap.size, 1, none⟩ = some (.int .i64 q.l) ∧ x.cell? ⟨wr.heap.size, 2, none⟩ = some (.string q.t) ∧ x.cell? ⟨wr.heap.size, 3, none⟩ = some (.int .i64 q.u) ∧ x.cell? ⟨p, o + J * 4, none⟩ = some (.int .i64 r.i) ∧ Below W2.heap.size W2 x)) (by kernel_rfl) ?_ (fun hHeld => ?_)
              · try dsimp only
                exact HSx.out _ ((Below.refl _ _).drew)
              refine tk 0 27 rfl ?_; simp only [pa]
              refine tk 1 28 rfl ?_; simp only [pa]
              refine tk 2 29 rfl ?_; simp only [pa]
              refine tk 3 30 rfl ?_; simp only [pa]
              refine tk 4 31 rfl ?_; simp only [pa]
              refine wpAnyH_ready (rs := [5]) (by kernel_rfl) (by simp) ?_
              refine AllReadyH.cons rfl (fun K hK => ?_) AllReadyH.nil
              go_simp
              go_wp2_with (first | (go_at_call 87; refine (HI1.out _).mono ?_; rintro e w' ⟨rfl, rfl⟩))
              refine hK.out _ _ ?_ (fun hHeld => ?_)
              · try dsimp only
                exact HSx.out _ (hHeld.2.2.2.2.2.2.2)
              clear hK K
              refine tk 6 33 rfl ?_; simp only [pa]
              refine tk 7 34 rfl ?_; simp only [pa]
              refine tk 8 35 rfl ?_; simp only [pa]
              refine tk 9 36 rfl ?_; simp only [pa]
              refine wpAnyH_ready (rs := [10]) (by kernel_rfl) (by simp) ?_
              refine AllReadyH.cons rfl (fun K hK => ?_) AllReadyH.nil
              go_simp
              go_wp2_with (first | (go_at_call 87; refine (HI2.out _).mono ?_; rintro e w' ⟨rfl, rfl⟩))
              refine hK.out _ _ ?_ (fun hHeld => ?_)
              · try dsimp only
                exact HSx.out _ (hHeld.2.2.2.2.2.2.2)
              clear hK K
              refine tk 11 38 rfl ?_; simp only [pa]
              refine tk 12 39 rfl ?_; simp only [pa]
              refine tk 13 40 rfl ?_; simp only [pa]
              refine tk 14 41 rfl ?_; simp only [pa]
              refine tk 15 42 rfl ?_; simp only [pa]
              refine tk 16 43 rfl ?_; simp only [pa]
              refine tk 17 44 rfl ?_; simp only [pa]
              refine tk 18 45 rfl ?_; simp only [pa]
              refine tk 19 46 rfl ?_; simp only [pa]
              refine tk 20 47 rfl ?_; simp only [pa]
              refine tk 21 48 rfl ?_; simp only [pa]
              refine tk 22 49 rfl ?_; simp only [pa]
              refine tk 23 50 rfl ?_; simp only [pa]
              refine sk 24 51 rfl ?_; simp only [pa]
              refine sk 25 52 rfl ?_; simp only [pa]
              refine sk 26 53 rfl ?_; simp only [pa]
              refine tk 27 54 rfl ?_; simp only [pa]
              refine tk 28 55 rfl ?_; simp only [pa]
              refine tk 29 56 rfl ?_; simp only [pa]
              refine tk 30 57 rfl ?_; simp only [pa]
              refine tk 31 58 rfl ?_; simp only [pa]
              refine wpAnyH_ready (rs := [32]) (by kernel_rfl) (by simp) ?_
              refine AllReadyH.cons rfl (fun K hK => ?_) AllReadyH.nil
              go_simp
              go_wp2_with (first | (go_at_call 87; refine (HI3.out _).mono ?_; rintro e w' ⟨rfl, rfl⟩))
              refine hK.out _ _ ?_ (fun hHeld => ?_)
              · try dsimp only
                exact HSx.out _ (hHeld.2.2.2.2.2.2.2)
              clear hK K
              refine tk 33 60 rfl ?_; simp only [pa]
              refine tk 34 61 rfl ?_; simp only [pa]
              refine tk 35 62 rfl ?_; simp only [pa]
              refine tk 36 63 rfl ?_; simp only [pa]
              refine tk 37 64 rfl ?_; simp only [pa]
              refine tk 38 65 rfl ?_; simp only [pa]
              refine tk 39 66 rfl ?_; simp only [pa]
              refine tk 40 67 rfl ?_; simp only [pa]
              refine tk 41 68 rfl ?_; simp only [pa]
              refine tk 42 69 rfl ?_; simp only [pa]
              refine tk 43 70 rfl ?_; simp only [pa]
              refine tk 44 71 rfl ?_; simp only [pa]
              refine tk 45 72 rfl ?_; simp only [pa]
              refine tk 46 73 rfl ?_; simp only [pa]
              refine tk 47 74 rfl ?_; simp only [pa]
              refine tk 48 75 rfl ?_; simp only [pa]
              refine tk 49 76 rfl ?_; simp only [pa]
              refine tk 50 77 rfl ?_; simp only [pa]
              have HE := hidP (hHeld.2.2.2.2.2.2.2)
              refine wpAnyH_done (by kernel_rfl) ?_ _
              clear hHeld
              go_wp2_with fail
              go_ret
              exact ⟨ret_b7 HF.out.symm, HU.out.trans ((below_box7 HBel.out HBel.out.size HXB.out HE.out).mono HU.out.size)⟩
      · have HF : Hid (sesF N 0 ls = true) := by
          rw [List.drop_of_length_le (by have := HN.out; omega)] at hpo
          exact hidP hpo
        have HBel := hidP hbel
        clear hbel hpo hpr
        go_wp2_with fail
        go_ret
        exact ⟨ret_b7 HF.out.symm, HU.out.trans (HBel.out.mono HU.out.size)⟩
  · rw [Bool.not_eq_true] at hgood
    rw [hgood]
    cases h0 : decide ((12 : Int) < (n : Int))
    · rw [decide_eq_true (show (n : Int) ≤ 12 by have := of_decide_eq_false h0; omega), Bool.true_and] at hgood
      rw [hgood] at HIN
      clear hB hn hgood
      go_enter Tryz.func54, Tryz.ntmps54
      go_wp2_with fail
      refine (HIN.out _).mono ?_
      rintro e w' ⟨rfl, rfl⟩
      go_wp2_with fail
      go_ret
      exact ⟨rfl, alloc_below w _⟩
    · clear hB hn hgood
      go_enter Tryz.func54, Tryz.ntmps54
      go_wp2_with fail
      go_ret
      exact ⟨rfl, alloc_below w _⟩

end Go.Proofs.YtngcbhbcocnbeaaGreat
namespace Go.Proofs.YtngcbhbcocnbeaaGreat
open Go.RowKit

theorem drew_cell (w : World) (p : Addr) : w.drew.cell? p = w.cell? p := by simp [go_sem]
theorem drew_frozen (w : World) (p : Addr) : w.drew.frozen? p = w.frozen? p := by simp [go_sem]
theorem drew_size_lt {w : World} {n : Nat} (h : n < w.heap.size) : n < w.drew.heap.size := by simpa using h
theorem allS_at (ls : List Ls) (f : Ls → Bool) (k : Nat) (q : Ls) (h : ls[k]? = some q) : (ls.drop k).all f = (f q && (ls.drop (k + 1)).all f) := by
  rw [drop_at h]; rfl
theorem all_lie {ps : List Pl} {bs : List Bk} (h : planB ps bs = true) (ls : List Ls) : ls.all (lieB bs) = ls.all (lieS bs) := by
  induction ls with
  | nil => rfl
  | cons l t ih => rw [List.all_cons, List.all_cons, ih, lie_same bs l (plan_pw h)]

set_option maxRecDepth 10000 in
set_option maxHeartbeats 4000000 in
theorem sStateOk_any (ap : Option Addr) (np cp : Nat) (ab : Option Addr) (nb cb : Nat) (al : Option Addr) (nl cl : Nat) (T N : Int) (aS : Option Addr) (ns cs : Nat) (X C : Int) (ps : List Pl) (bs : List Bk) (ls : List Ls) (ss : List Ss) (w : World) (hnp : np = ps.length) (hnb : nb = bs.length) (hnl : nl = ls.length) (hns : ns = ss.length) (hP : RowG KPl w ap ps) (hK : RowG KBk w ab bs) (hL : RowG KLs w al ls) (hS : RowG KSs w aS ss) (hlp : np ≤ 1048576) (hlb : nb ≤ 1048576) (hll : nl ≤ 1048576) (hls : ns ≤ 1048576) (hsb : ∀ q ∈ bs, q.t.size ≤ 9223372036854775807) (hsl : ∀ q ∈ ls, q.t.size ≤ 9223372036854775807) :
    Calls Tryz.prog 19 #[.agg #[.slice ap np cp, .slice ab nb cb, .slice al nl cl, .int .i64 T, .int .i64 N, .slice aS ns cs, .int .i64 X, .int .i64 C]] w fun e w' => e = .returned (.bool (stB ps bs ls T N ss X C)) ∧ Below w.heap.size w w' := by
  have HP := hidP (fun W h => sPlanOk_any ap np cp ab nb cb ps bs W hnp hnb (hP.later h) (hK.later h) (by omega) (by omega) hsb)
  have HB := hidP (fun W h => sBookOk_any al nl cl T N ls W hnl (hL.later h) hll hsl)
  have HD := hidP (fun W h => sDeskOk_any aS ns cs X ss W hns (hS.later h) hls)
  have HBO := hidP (fun s H L W h => sBlockOf_any s H L ap np cp ab nb cb ps bs W hnp hnb (hP.later h) (hK.later h) (by omega) (by omega) hsb)
  have HR := hidP hL
  have HN := hidP hnl
  have HA := hidP (fun h => all_lie (ps := ps) (bs := bs) h ls)
  unfold stB
  clear hP hK hL hS hnp hnb hnl hns hsb hsl
  generalize planB ps bs = r1 at *
  generalize bkB ls T N = r2 at *
  generalize dkB ss X = r3 at *
  cases r1
  · go_enter Tryz.func19, Tryz.ntmps19
    go_wp2_with fail
    obtain ⟨bx0_W1, bx1_W1, bx2_W1, bx3_W1, bx4_W1, bx5_W1, bx6_W1, bx7_W1⟩ := bx8 w 48 (.slice ap np cp) (.slice ab nb cb) (.slice al nl cl) (.int .i64 T) (.int .i64 N) (.slice aS ns cs) (.int .i64 X) (.int .i64 C)
    have bxF_W1 : ∀ o, (w.alloc (.cells #[.slice ap np cp, .slice ab nb cb, .slice al nl cl, .int .i64 T, .int .i64 N, .slice aS ns cs, .int .i64 X, .int .i64 C] 48)).frozen? ⟨w.heap.size, o, none⟩ = false := fun o => by simp [go_sem]
    have bxL_W1 : w.heap.size < (w.alloc (.cells #[.slice ap np cp, .slice ab nb cb, .slice al nl cl, .int .i64 T, .int .i64 N, .slice aS ns cs, .int .i64 X, .int .i64 C] 48)).heap.size := by simp
    have ab_W1 := alloc_below w (.cells #[.slice ap np cp, .slice ab nb cb, .slice al nl cl, .int .i64 T, .int .i64 N, .slice aS ns cs, .int .i64 X, .int .i64 C] 48)
    have as_W1 : Hid ((w.alloc (.cells #[.slice ap np cp, .slice ab nb cb, .slice al nl cl, .int .i64 T, .int .i64 N, .slice aS ns cs, .int .i64 X, .int .i64 C] 48)).heap.size = w.heap.size + 1) := hidP (by simp)
    generalize w.alloc (.cells #[.slice ap np cp, .slice ab nb cb, .slice al nl cl, .int .i64 T, .int .i64 N, .slice aS ns cs, .int .i64 X, .int .i64 C] 48) = W1 at *
    have acc_W1 := hidP (ab_W1)
    have sz_W1 : Hid (w.heap.size ≤ W1.heap.size) := hidP ab_W1.size
    clear ab_W1 
    refine (HP.out _ acc_W1.out).mono ?_
    rintro e u0 ⟨rfl, hb0⟩
    have bx0_u0 := (hb0.cell bxL_W1).trans bx0_W1
    have bx1_u0 := (hb0.cell bxL_W1).trans bx1_W1
    have bx2_u0 := (hb0.cell bxL_W1).trans bx2_W1
    have bx3_u0 := (hb0.cell bxL_W1).trans bx3_W1
    have bx4_u0 := (hb0.cell bxL_W1).trans bx4_W1
    have bx5_u0 := (hb0.cell bxL_W1).trans bx5_W1
    have bx6_u0 := (hb0.cell bxL_W1).trans bx6_W1
    have bx7_u0 := (hb0.cell bxL_W1).trans bx7_W1
    have bxF_u0 : ∀ o, u0.frozen? ⟨w.heap.size, o, none⟩ = false := fun o => (hb0.frozen bxL_W1).trans (bxF_W1 o)
    have bxL_u0 : w.heap.size < u0.heap.size := Nat.lt_of_lt_of_le bxL_W1 hb0.size
    have acc_u0 := hidP (acc_W1.out.trans (hb0.mono acc_W1.out.size))
    have sz_u0 : Hid (W1.heap.size ≤ u0.heap.size) := hidP hb0.size
    clear hb0 bx0_W1 bx1_W1 bx2_W1 bx3_W1 bx4_W1 bx5_W1 bx6_W1 bx7_W1 bxF_W1 bxL_W1 acc_W1
    go_wp2_with fail
    go_ret
    exact ⟨rfl, acc_u0.out⟩
  · cases r2
    · go_enter Tryz.func19, Tryz.ntmps19
      go_wp2_with fail
      obtain ⟨bx0_W1, bx1_W1, bx2_W1, bx3_W1, bx4_W1, bx5_W1, bx6_W1, bx7_W1⟩ := bx8 w 48 (.slice ap np cp) (.slice ab nb cb) (.slice al nl cl) (.int .i64 T) (.int .i64 N) (.slice aS ns cs) (.int .i64 X) (.int .i64 C)
      have bxF_W1 : ∀ o, (w.alloc (.cells #[.slice ap np cp, .slice ab nb cb, .slice al nl cl, .int .i64 T, .int .i64 N, .slice aS ns cs, .int .i64 X, .int .i64 C] 48)).frozen? ⟨w.heap.size, o, none⟩ = false := fun o => by simp [go_sem]
      have bxL_W1 : w.heap.size < (w.alloc (.cells #[.slice ap np cp, .slice ab nb cb, .slice al nl cl, .int .i64 T, .int .i64 N, .slice aS ns cs, .int .i64 X, .int .i64 C] 48)).heap.size := by simp
      have ab_W1 := alloc_below w (.cells #[.slice ap np cp, .slice ab nb cb, .slice al nl cl, .int .i64 T, .int .i64 N, .slice aS ns cs, .int .i64 X, .int .i64 C] 48)
      have as_W1 : Hid ((w.alloc (.cells #[.slice ap np cp, .slice ab nb cb, .slice al nl cl, .int .i64 T, .int .i64 N, .slice aS ns cs, .int .i64 X, .int .i64 C] 48)).heap.size = w.heap.size + 1) := hidP (by simp)
      generalize w.alloc (.cells #[.slice ap np cp, .slice ab nb cb, .slice al nl cl, .int .i64 T, .int .i64 N, .slice aS ns cs, .int .i64 X, .int .i64 C] 48) = W1 at *
      have acc_W1 := hidP (ab_W1)
      have sz_W1 : Hid (w.heap.size ≤ W1.heap.size) := hidP ab_W1.size
      clear ab_W1 
      refine (HP.out _ acc_W1.out).mono ?_
      rintro e u0 ⟨rfl, hb0⟩
      have bx0_u0 := (hb0.cell bxL_W1).trans bx0_W1
      have bx1_u0 := (hb0.cell bxL_W1).trans bx1_W1
      have bx2_u0 := (hb0.cell bxL_W1).trans bx2_W1
      have bx3_u0 := (hb0.cell bxL_W1).trans bx3_W1
      have bx4_u0 := (hb0.cell bxL_W1).trans bx4_W1
      have bx5_u0 := (hb0.cell bxL_W1).trans bx5_W1
      have bx6_u0 := (hb0.cell bxL_W1).trans bx6_W1
      have bx7_u0 := (hb0.cell bxL_W1).trans bx7_W1
      have bxF_u0 : ∀ o, u0.frozen? ⟨w.heap.size, o, none⟩ = false := fun o => (hb0.frozen bxL_W1).trans (bxF_W1 o)
      have bxL_u0 : w.heap.size < u0.heap.size := Nat.lt_of_lt_of_le bxL_W1 hb0.size
      have acc_u0 := hidP (acc_W1.out.trans (hb0.mono acc_W1.out.size))
      have sz_u0 : Hid (W1.heap.size ≤ u0.heap.size) := hidP hb0.size
      clear hb0 bx0_W1 bx1_W1 bx2_W1 bx3_W1 bx4_W1 bx5_W1 bx6_W1 bx7_W1 bxF_W1 bxL_W1 acc_W1
      go_wp2_with fail
      refine (HB.out _ acc_u0.out).mono ?_
      rintro e u1 ⟨rfl, hb1⟩
      have bx0_u1 := (hb1.cell bxL_u0).trans bx0_u0
      have bx1_u1 := (hb1.cell bxL_u0).trans bx1_u0
      have bx2_u1 := (hb1.cell bxL_u0).trans bx2_u0
      have bx3_u1 := (hb1.cell bxL_u0).trans bx3_u0
      have bx4_u1 := (hb1.cell bxL_u0).trans bx4_u0
      have bx5_u1 := (hb1.cell bxL_u0).trans bx5_u0
      have bx6_u1 := (hb1.cell bxL_u0).trans bx6_u0
      have bx7_u1 := (hb1.cell bxL_u0).trans bx7_u0
      have bxF_u1 : ∀ o, u1.frozen? ⟨w.heap.size, o, none⟩ = false := fun o => (hb1.frozen bxL_u0).trans (bxF_u0 o)
      have bxL_u1 : w.heap.size < u1.heap.size := Nat.lt_of_lt_of_le bxL_u0 hb1.size
      have acc_u1 := hidP (acc_u0.out.trans (hb1.mono acc_u0.out.size))
      have sz_u1 : Hid (u0.heap.size ≤ u1.heap.size) := hidP hb1.size
      clear hb1 bx0_u0 bx1_u0 bx2_u0 bx3_u0 bx4_u0 bx5_u0 bx6_u0 bx7_u0 bxF_u0 bxL_u0 acc_u0
      go_wp2_with fail
      go_ret
      exact ⟨rfl, acc_u1.out⟩
    · cases r3
      · go_enter Tryz.func19, Tryz.ntmps19
        go_wp2_with fail
        obtain ⟨bx0_W1, bx1_W1, bx2_W1, bx3_W1, bx4_W1, bx5_W1, bx6_W1, bx7_W1⟩ := bx8 w 48 (.slice ap np cp) (.slice ab nb cb) (.slice al nl cl) (.int .i64 T) (.int .i64 N) (.slice aS ns cs) (.int .i64 X) (.int .i64 C)
        have bxF_W1 : ∀ o, (w.alloc (.cells #[.slice ap np cp, .slice ab nb cb, .slice al nl cl, .int .i64 T, .int .i64 N, .slice aS ns cs, .int .i64 X, .int .i64 C] 48)).frozen? ⟨w.heap.size, o, none⟩ = false := fun o => by simp [go_sem]
        have bxL_W1 : w.heap.size < (w.alloc (.cells #[.slice ap np cp, .slice ab nb cb, .slice al nl cl, .int .i64 T, .int .i64 N, .slice aS ns cs, .int .i64 X, .int .i64 C] 48)).heap.size := by simp
        have ab_W1 := alloc_below w (.cells #[.slice ap np cp, .slice ab nb cb, .slice al nl cl, .int .i64 T, .int .i64 N, .slice aS ns cs, .int .i64 X, .int .i64 C] 48)
        have as_W1 : Hid ((w.alloc (.cells #[.slice ap np cp, .slice ab nb cb, .slice al nl cl, .int .i64 T, .int .i64 N, .slice aS ns cs, .int .i64 X, .int .i64 C] 48)).heap.size = w.heap.size + 1) := hidP (by simp)
        generalize w.alloc (.cells #[.slice ap np cp, .slice ab nb cb, .slice al nl cl, .int .i64 T, .int .i64 N, .slice aS ns cs, .int .i64 X, .int .i64 C] 48) = W1 at *
        have acc_W1 := hidP (ab_W1)
        have sz_W1 : Hid (w.heap.size ≤ W1.heap.size) := hidP ab_W1.size
        clear ab_W1 
        refine (HP.out _ acc_W1.out).mono ?_
        rintro e u0 ⟨rfl, hb0⟩
        have bx0_u0 := (hb0.cell bxL_W1).trans bx0_W1
        have bx1_u0 := (hb0.cell bxL_W1).trans bx1_W1
        have bx2_u0 := (hb0.cell bxL_W1).trans bx2_W1
        have bx3_u0 := (hb0.cell bxL_W1).trans bx3_W1
        have bx4_u0 := (hb0.cell bxL_W1).trans bx4_W1
        have bx5_u0 := (hb0.cell bxL_W1).trans bx5_W1
        have bx6_u0 := (hb0.cell bxL_W1).trans bx6_W1
        have bx7_u0 := (hb0.cell bxL_W1).trans bx7_W1
        have bxF_u0 : ∀ o, u0.frozen? ⟨w.heap.size, o, none⟩ = false := fun o => (hb0.frozen bxL_W1).trans (bxF_W1 o)
        have bxL_u0 : w.heap.size < u0.heap.size := Nat.lt_of_lt_of_le bxL_W1 hb0.size
        have acc_u0 := hidP (acc_W1.out.trans (hb0.mono acc_W1.out.size))
        have sz_u0 : Hid (W1.heap.size ≤ u0.heap.size) := hidP hb0.size
        clear hb0 bx0_W1 bx1_W1 bx2_W1 bx3_W1 bx4_W1 bx5_W1 bx6_W1 bx7_W1 bxF_W1 bxL_W1 acc_W1
        go_wp2_with fail
        refine (HB.out _ acc_u0.out).mono ?_
        rintro e u1 ⟨rfl, hb1⟩
        have bx0_u1 := (hb1.cell bxL_u0).trans bx0_u0
        have bx1_u1 := (hb1.cell bxL_u0).trans bx1_u0
        have bx2_u1 := (hb1.cell bxL_u0).trans bx2_u0
        have bx3_u1 := (hb1.cell bxL_u0).trans bx3_u0
        have bx4_u1 := (hb1.cell bxL_u0).trans bx4_u0
        have bx5_u1 := (hb1.cell bxL_u0).trans bx5_u0
        have bx6_u1 := (hb1.cell bxL_u0).trans bx6_u0
        have bx7_u1 := (hb1.cell bxL_u0).trans bx7_u0
        have bxF_u1 : ∀ o, u1.frozen? ⟨w.heap.size, o, none⟩ = false := fun o => (hb1.frozen bxL_u0).trans (bxF_u0 o)
        have bxL_u1 : w.heap.size < u1.heap.size := Nat.lt_of_lt_of_le bxL_u0 hb1.size
        have acc_u1 := hidP (acc_u0.out.trans (hb1.mono acc_u0.out.size))
        have sz_u1 : Hid (u0.heap.size ≤ u1.heap.size) := hidP hb1.size
        clear hb1 bx0_u0 bx1_u0 bx2_u0 bx3_u0 bx4_u0 bx5_u0 bx6_u0 bx7_u0 bxF_u0 bxL_u0 acc_u0
        go_wp2_with fail
        refine (HD.out _ acc_u1.out).mono ?_
        rintro e u2 ⟨rfl, hb2⟩
        have bx0_u2 := (hb2.cell bxL_u1).trans bx0_u1
        have bx1_u2 := (hb2.cell bxL_u1).trans bx1_u1
        have bx2_u2 := (hb2.cell bxL_u1).trans bx2_u1
        have bx3_u2 := (hb2.cell bxL_u1).trans bx3_u1
        have bx4_u2 := (hb2.cell bxL_u1).trans bx4_u1
        have bx5_u2 := (hb2.cell bxL_u1).trans bx5_u1
        have bx6_u2 := (hb2.cell bxL_u1).trans bx6_u1
        have bx7_u2 := (hb2.cell bxL_u1).trans bx7_u1
        have bxF_u2 : ∀ o, u2.frozen? ⟨w.heap.size, o, none⟩ = false := fun o => (hb2.frozen bxL_u1).trans (bxF_u1 o)
        have bxL_u2 : w.heap.size < u2.heap.size := Nat.lt_of_lt_of_le bxL_u1 hb2.size
        have acc_u2 := hidP (acc_u1.out.trans (hb2.mono acc_u1.out.size))
        have sz_u2 : Hid (u1.heap.size ≤ u2.heap.size) := hidP hb2.size
        clear hb2 bx0_u1 bx1_u1 bx2_u1 bx3_u1 bx4_u1 bx5_u1 bx6_u1 bx7_u1 bxF_u1 bxL_u1 acc_u1
        go_wp2_with fail
        go_ret
        exact ⟨rfl, acc_u2.out⟩
      · cases hc : decide (C < 0)
        · have hc2 : ¬ (C < 0) := of_decide_eq_false hc
          have hc3 : decide (0 ≤ C) = true := decide_eq_true (by omega)
          rw [hc3, HA.out rfl]
          clear HA hc3
          go_enter Tryz.func19, Tryz.ntmps19
          go_wp2_with fail
          obtain ⟨bx0_W1, bx1_W1, bx2_W1, bx3_W1, bx4_W1, bx5_W1, bx6_W1, bx7_W1⟩ := bx8 w 48 (.slice ap np cp) (.slice ab nb cb) (.slice al nl cl) (.int .i64 T) (.int .i64 N) (.slice aS ns cs) (.int .i64 X) (.int .i64 C)
          have bxF_W1 : ∀ o, (w.alloc (.cells #[.slice ap np cp, .slice ab nb cb, .slice al nl cl, .int .i64 T, .int .i64 N, .slice aS ns cs, .int .i64 X, .int .i64 C] 48)).frozen? ⟨w.heap.size, o, none⟩ = false := fun o => by simp [go_sem]
          have bxL_W1 : w.heap.size < (w.alloc (.cells #[.slice ap np cp, .slice ab nb cb, .slice al nl cl, .int .i64 T, .int .i64 N, .slice aS ns cs, .int .i64 X, .int .i64 C] 48)).heap.size := by simp
          have ab_W1 := alloc_below w (.cells #[.slice ap np cp, .slice ab nb cb, .slice al nl cl, .int .i64 T, .int .i64 N, .slice aS ns cs, .int .i64 X, .int .i64 C] 48)
          have as_W1 : Hid ((w.alloc (.cells #[.slice ap np cp, .slice ab nb cb, .slice al nl cl, .int .i64 T, .int .i64 N, .slice aS ns cs, .int .i64 X, .int .i64 C] 48)).heap.size = w.heap.size + 1) := hidP (by simp)
          generalize w.alloc (.cells #[.slice ap np cp, .slice ab nb cb, .slice al nl cl, .int .i64 T, .int .i64 N, .slice aS ns cs, .int .i64 X, .int .i64 C] 48) = W1 at *
          have acc_W1 := hidP (ab_W1)
          have sz_W1 : Hid (w.heap.size ≤ W1.heap.size) := hidP ab_W1.size
          clear ab_W1 
          refine (HP.out _ acc_W1.out).mono ?_
          rintro e u0 ⟨rfl, hb0⟩
          have bx0_u0 := (hb0.cell bxL_W1).trans bx0_W1
          have bx1_u0 := (hb0.cell bxL_W1).trans bx1_W1
          have bx2_u0 := (hb0.cell bxL_W1).trans bx2_W1
          have bx3_u0 := (hb0.cell bxL_W1).trans bx3_W1
          have bx4_u0 := (hb0.cell bxL_W1).trans bx4_W1
          have bx5_u0 := (hb0.cell bxL_W1).trans bx5_W1
          have bx6_u0 := (hb0.cell bxL_W1).trans bx6_W1
          have bx7_u0 := (hb0.cell bxL_W1).trans bx7_W1
          have bxF_u0 : ∀ o, u0.frozen? ⟨w.heap.size, o, none⟩ = false := fun o => (hb0.frozen bxL_W1).trans (bxF_W1 o)
          have bxL_u0 : w.heap.size < u0.heap.size := Nat.lt_of_lt_of_le bxL_W1 hb0.size
          have acc_u0 := hidP (acc_W1.out.trans (hb0.mono acc_W1.out.size))
          have sz_u0 : Hid (W1.heap.size ≤ u0.heap.size) := hidP hb0.size
          clear hb0 bx0_W1 bx1_W1 bx2_W1 bx3_W1 bx4_W1 bx5_W1 bx6_W1 bx7_W1 bxF_W1 bxL_W1 acc_W1
          go_wp2_with fail
          refine (HB.out _ acc_u0.out).mono ?_
          rintro e u1 ⟨rfl, hb1⟩
          have bx0_u1 := (hb1.cell bxL_u0).trans bx0_u0
          have bx1_u1 := (hb1.cell bxL_u0).trans bx1_u0
          have bx2_u1 := (hb1.cell bxL_u0).trans bx2_u0
          have bx3_u1 := (hb1.cell bxL_u0).trans bx3_u0
          have bx4_u1 := (hb1.cell bxL_u0).trans bx4_u0
          have bx5_u1 := (hb1.cell bxL_u0).trans bx5_u0
          have bx6_u1 := (hb1.cell bxL_u0).trans bx6_u0
          have bx7_u1 := (hb1.cell bxL_u0).trans bx7_u0
          have bxF_u1 : ∀ o, u1.frozen? ⟨w.heap.size, o, none⟩ = false := fun o => (hb1.frozen bxL_u0).trans (bxF_u0 o)
          have bxL_u1 : w.heap.size < u1.heap.size := Nat.lt_of_lt_of_le bxL_u0 hb1.size
          have acc_u1 := hidP (acc_u0.out.trans (hb1.mono acc_u0.out.size))
          have sz_u1 : Hid (u0.heap.size ≤ u1.heap.size) := hidP hb1.size
          clear hb1 bx0_u0 bx1_u0 bx2_u0 bx3_u0 bx4_u0 bx5_u0 bx6_u0 bx7_u0 bxF_u0 bxL_u0 acc_u0
          go_wp2_with fail
          refine (HD.out _ acc_u1.out).mono ?_
          rintro e u2 ⟨rfl, hb2⟩
          have bx0_u2 := (hb2.cell bxL_u1).trans bx0_u1
          have bx1_u2 := (hb2.cell bxL_u1).trans bx1_u1
          have bx2_u2 := (hb2.cell bxL_u1).trans bx2_u1
          have bx3_u2 := (hb2.cell bxL_u1).trans bx3_u1
          have bx4_u2 := (hb2.cell bxL_u1).trans bx4_u1
          have bx5_u2 := (hb2.cell bxL_u1).trans bx5_u1
          have bx6_u2 := (hb2.cell bxL_u1).trans bx6_u1
          have bx7_u2 := (hb2.cell bxL_u1).trans bx7_u1
          have bxF_u2 : ∀ o, u2.frozen? ⟨w.heap.size, o, none⟩ = false := fun o => (hb2.frozen bxL_u1).trans (bxF_u1 o)
          have bxL_u2 : w.heap.size < u2.heap.size := Nat.lt_of_lt_of_le bxL_u1 hb2.size
          have acc_u2 := hidP (acc_u1.out.trans (hb2.mono acc_u1.out.size))
          have sz_u2 : Hid (u1.heap.size ≤ u2.heap.size) := hidP hb2.size
          clear hb2 bx0_u1 bx1_u1 bx2_u1 bx3_u1 bx4_u1 bx5_u1 bx6_u1 bx7_u1 bxF_u1 bxL_u1 acc_u1
          go_wp2_with fail
          go_loopw [3, 4, 5] (fun t3 _ _ wr => ∃ k : Nat, k ≤ nl ∧ t3 = .int .i64 k ∧ ls.all (lieS bs) = (ls.drop k).all (lieS bs) ∧ Below u2.heap.size u2 wr) (fun t3 _ _ _ => nl - (intOf t3).toNat)
          case atStart => exact ⟨0, Nat.zero_le _, rfl, rfl, Below.refl _ _⟩
          case round =>
            obtain ⟨k, hk, rfl, hpo, hbel⟩ := hrel
            have B0 := (hbel.cell bxL_u2).trans bx0_u2
            have B1 := (hbel.cell bxL_u2).trans bx1_u2
            have B2 := (hbel.cell bxL_u2).trans bx2_u2
            have B3 := (hbel.cell bxL_u2).trans bx3_u2
            have B4 := (hbel.cell bxL_u2).trans bx4_u2
            have B5 := (hbel.cell bxL_u2).trans bx5_u2
            have B6 := (hbel.cell bxL_u2).trans bx6_u2
            have B7 := (hbel.cell bxL_u2).trans bx7_u2
            have BL : w.heap.size < wr.heap.size := Nat.lt_of_lt_of_le bxL_u2 hbel.size
            have HBu := hidP hbel
            have HBel := hidP (acc_u2.out.trans (hbel.mono acc_u2.out.size))
            by_cases hlt : k < nl
            · obtain ⟨p, o, q, rfl, hp, hq, c0, c1, c2, c3, c4, c5⟩ := rowLs HR.out k (by rw [← HN.out]; exact hlt)
              have d0 := (HBel.out.cell hp).trans c0
              have d1 := (HBel.out.cell hp).trans c1
              have d2 := (HBel.out.cell hp).trans c2
              have d3 := (HBel.out.cell hp).trans c3
              have d4 := (HBel.out.cell hp).trans c4
              have d5 := (HBel.out.cell hp).trans c5
              have hpL : p < wr.heap.size := Nat.lt_of_lt_of_le hp HBel.out.size
              rw [allS_at ls _ k q hq] at hpo
              have HPo := hidP hpo
              have HBq := hidP (fun W h => HBO.out q.a.s q.a.H q.a.L W h)
              unfold bkR at HBq
              rw [if_pos rfl] at HBq
              have HLie : Hid (lieS bs q = ((bkF q.a.s q.a.H q.a.L bs).2 && decide ((bkF q.a.s q.a.H q.a.L bs).1.t = q.t))) := hidP rfl
              generalize bkF q.a.s q.a.H q.a.L bs = R at *
              obtain ⟨y, r⟩ := R
              try dsimp only at HBq HLie
              clear c0 c1 c2 c3 c4 c5 hq hpo hbel bx0_u2 bx1_u2 bx2_u2 bx3_u2 bx4_u2 bx5_u2 bx6_u2 bx7_u2 bxF_u2 bxL_u2
              go_upto_region 6 with fail
              go_cut [4, 5] (fun t4 t5 Y => ∃ b : Nat, t4 = .pointer (some ⟨b, 0, none⟩) ∧ t5 = .bool r ∧ wr.heap.size ≤ b ∧ b < Y.heap.size ∧ Y.cell? ⟨b, 0, none⟩ = some (.bool y.p.s) ∧ Y.cell? ⟨b, 1, none⟩ = some (.int .i64 y.p.H.toInt) ∧ Y.cell? ⟨b, 2, none⟩ = some (.int .i64 y.p.L.toInt) ∧ Y.cell? ⟨b, 3, none⟩ = some (.int .i64 y.p.b) ∧ Y.cell? ⟨b, 4, none⟩ = some (.string y.t) ∧ Below wr.heap.size wr Y)
              case first =>
                have HSx : Hid (∀ x, Below wr.heap.size wr x → (x.cell? ⟨w.heap.size, 0, none⟩ = some (.slice ap np cp) ∧ x.cell? ⟨w.heap.size, 1, none⟩ = some (.slice ab nb cb) ∧ x.cell? ⟨w.heap.size, 2, none⟩ = some (.slice (some ⟨p, o, none⟩) nl cl) ∧ x.cell? ⟨p, o + k * 6, none⟩ = some (.bool q.a.s) ∧ x.cell? ⟨p, o + k * 6 + 1, none⟩ = some (.int .i64 q.a.H.toInt) ∧ x.cell? ⟨p, o + k * 6 + 2, none⟩ = some (.int .i64 q.a.L.toInt) ∧ Below wr.heap.size wr x)) := hidP fun x h =>
                  ⟨(h.cell BL).trans B0, (h.cell BL).trans B1, (h.cell BL).trans B2, (h.cell hpL).trans d0, (h.cell hpL).trans d1, (h.cell hpL).trans d2, h⟩
                refine wp_region_held_drew (S := (fun x => x.cell? ⟨w.heap.size, 0, none⟩ = some (.slice ap np cp) ∧ x.cell? ⟨w.heap.size, 1, none⟩ = some (.slice ab nb cb) ∧ x.cell? ⟨w.heap.size, 2, none⟩ = some (.slice (some ⟨p, o, none⟩) nl cl) ∧ x.cell? ⟨p, o + k * 6, none⟩ = some (.bool q.a.s) ∧ x.cell? ⟨p, o + k * 6 + 1, none⟩ = some (.int .i64 q.a.H.toInt) ∧ x.cell? ⟨p, o + k * 6 + 2, none⟩ = some (.int .i64 q.a.L.toInt) ∧ Below wr.heap.size wr x)) (by kernel_rfl) ?_ (fun hHeld => ?_)
                · try dsimp only
                  exact HSx.out _ (Below.refl _ _).drew
                refine tk 0 36 rfl ?_; simp only [pa]
                refine tk 1 37 rfl ?_; simp only [pa]
                refine tk 2 38 rfl ?_; simp only [pa]
                refine tk 3 39 rfl ?_; simp only [pa]
                refine tk 4 40 rfl ?_; simp only [pa]
                refine tk 5 41 rfl ?_; simp only [pa]
                refine tk 6 42 rfl ?_; simp only [pa]
                refine tk 7 43 rfl ?_; simp only [pa]
                refine tk 8 44 rfl ?_; simp only [pa]
                refine wpAnyH_ready (rs := [9, 13]) (by kernel_rfl) (by simp) ?_
                refine AllReadyH.cons rfl (fun K hK => ?_) (AllReadyH.cons rfl (fun K hK => ?_) AllReadyH.nil)
                · go_simp
                  go_wp2_with (first | (go_at_call 55; refine (HBq.out _ (HBel.out.trans ((hHeld.2.2.2.2.2.2).mono HBel.out.size))).mono ?_; rintro e w3 ⟨rfl, hb3⟩; have b3 := (hHeld.2.2.2.2.2.2).trans (hb3.mono (hHeld.2.2.2.2.2.2).size)))
                  refine hK.out _ _ ?_ (fun hHeld => ?_)
                  · try dsimp only
                    exact HSx.out _ b3
                  clear hK K
                  refine tk 10 35 rfl ?_; simp only [pa]
                  refine tk 11 46 rfl ?_; simp only [pa]
                  refine tk 12 47 rfl ?_; simp only [pa]
                  refine wpAnyH_ready (rs := [13]) (by kernel_rfl) (by simp) ?_
                  refine AllReadyH.cons rfl (fun K hK => ?_) AllReadyH.nil
                  go_simp
                  obtain ⟨z4x0, z4x1, z4x2, z4x3, z4x4⟩ := boxZ w3 71
                  have z4F := frzZ w3 71
                  have z4B := alloc_below w3 (.cells #[.bool false, .int .i64 0, .int .i64 0, .int .i64 0, .string ⟨#[]⟩] 71)
                  have z4L := alloc_lt w3 (.cells #[.bool false, .int .i64 0, .int .i64 0, .int .i64 0, .string ⟨#[]⟩] 71)
                  have z4M := (hHeld.2.2.2.2.2.2).trans (z4B.mono (hHeld.2.2.2.2.2.2).size)
                  generalize w3.alloc (.cells #[.bool false, .int .i64 0, .int .i64 0, .int .i64 0, .string ⟨#[]⟩] 71) = w4 at *
                  refine hK.out _ _ ?_ (fun hHeld => ?_)
                  · try dsimp only
                    exact HSx.out _ z4M
                  clear hK K
                  have bl4 : wr.heap.size ≤ w3.heap.size := b3.size
                  refine wpAnyH_ready (rs := [14]) (by kernel_rfl) (by simp) ?_
                  refine AllReadyH.cons rfl (fun K hK => ?_) AllReadyH.nil
                  go_simp
                  refine hK.out _ _ ?_ (fun hHeld => ?_)
                  · try dsimp only
                    refine HSx.out _ ?_
                    repeat (with_reducible refine Below.setCell ?_ ?_ _; rotate_left; (focus (exact (bl4))))
                    exact (hHeld.2.2.2.2.2.2)
                  clear hK K
                  refine tk 15 5 rfl ?_; simp only [pa]
                  have HE := hidP (hHeld.2.2.2.2.2.2)
                  refine wpAnyH_done (by kernel_rfl) ?_ _
                  clear hHeld
                  go_wp2_with fail
                  go_meet
                  refine ⟨_, rfl, rfl, bl4, ?_, ?_, ?_, ?_, ?_, ?_, HE.out⟩
                  · simp; exact z4L
                  all_goals (simp [go_sem, z4x0, z4x1, z4x2, z4x3, z4x4])
                · go_simp
                  obtain ⟨z3x0, z3x1, z3x2, z3x3, z3x4⟩ := boxZ wr 71
                  have z3F := frzZ wr 71
                  have z3B := alloc_below wr (.cells #[.bool false, .int .i64 0, .int .i64 0, .int .i64 0, .string ⟨#[]⟩] 71)
                  have z3L := alloc_lt wr (.cells #[.bool false, .int .i64 0, .int .i64 0, .int .i64 0, .string ⟨#[]⟩] 71)
                  have z3x0 := (drew_cell (wr.alloc (.cells #[.bool false, .int .i64 0, .int .i64 0, .int .i64 0, .string ⟨#[]⟩] 71)) _).trans z3x0
                  have z3x1 := (drew_cell (wr.alloc (.cells #[.bool false, .int .i64 0, .int .i64 0, .int .i64 0, .string ⟨#[]⟩] 71)) _).trans z3x1
                  have z3x2 := (drew_cell (wr.alloc (.cells #[.bool false, .int .i64 0, .int .i64 0, .int .i64 0, .string ⟨#[]⟩] 71)) _).trans z3x2
                  have z3x3 := (drew_cell (wr.alloc (.cells #[.bool false, .int .i64 0, .int .i64 0, .int .i64 0, .string ⟨#[]⟩] 71)) _).trans z3x3
                  have z3x4 := (drew_cell (wr.alloc (.cells #[.bool false, .int .i64 0, .int .i64 0, .int .i64 0, .string ⟨#[]⟩] 71)) _).trans z3x4
                  have z3F := fun o => (drew_frozen (wr.alloc (.cells #[.bool false, .int .i64 0, .int .i64 0, .int .i64 0, .string ⟨#[]⟩] 71)) _).trans (z3F o)
                  have z3L := drew_size_lt z3L
                  have z3M := z3B.drew
                  generalize (wr.alloc (.cells #[.bool false, .int .i64 0, .int .i64 0, .int .i64 0, .string ⟨#[]⟩] 71)).drew = w3 at *
                  refine hK.out _ _ ?_ (fun hHeld => ?_)
                  · try dsimp only
                    exact HSx.out _ z3M
                  clear hK K
                  have bl3 : wr.heap.size ≤ wr.heap.size := Nat.le_refl _
                  refine wpAnyH_ready (rs := [9]) (by kernel_rfl) (by simp) ?_
                  refine AllReadyH.cons rfl (fun K hK => ?_) AllReadyH.nil
                  go_simp
                  go_wp2_with (first | (go_at_call 55; refine (HBq.out _ (HBel.out.trans ((hHeld.2.2.2.2.2.2).mono HBel.out.size))).mono ?_; rintro e w4 ⟨rfl, hb4⟩; have b4 := (hHeld.2.2.2.2.2.2).trans (hb4.mono (hHeld.2.2.2.2.2.2).size)))
                  refine hK.out _ _ ?_ (fun hHeld => ?_)
                  · try dsimp only
                    exact HSx.out _ b4
                  clear hK K
                  have z4x0 := (hb4.cell z3L).trans z3x0
                  have z4x1 := (hb4.cell z3L).trans z3x1
                  have z4x2 := (hb4.cell z3L).trans z3x2
                  have z4x3 := (hb4.cell z3L).trans z3x3
                  have z4x4 := (hb4.cell z3L).trans z3x4
                  have z4F : ∀ o, w4.frozen? ⟨wr.heap.size, o, none⟩ = false := fun o => (hb4.frozen z3L).trans (z3F o)
                  have z4L : wr.heap.size < w4.heap.size := Nat.lt_of_lt_of_le z3L hb4.size
                  clear z3x0 z3x1 z3x2 z3x3 z3x4 z3F
                  refine tk 10 35 rfl ?_; simp only [pa]
                  refine tk 11 46 rfl ?_; simp only [pa]
                  refine tk 12 47 rfl ?_; simp only [pa]
                  refine wpAnyH_ready (rs := [14]) (by kernel_rfl) (by simp) ?_
                  refine AllReadyH.cons rfl (fun K hK => ?_) AllReadyH.nil
                  go_simp
                  refine hK.out _ _ ?_ (fun hHeld => ?_)
                  · try dsimp only
                    refine HSx.out _ ?_
                    repeat (with_reducible refine Below.setCell ?_ ?_ _; rotate_left; (focus (exact (bl3))))
                    exact (hHeld.2.2.2.2.2.2)
                  clear hK K
                  refine tk 15 5 rfl ?_; simp only [pa]
                  have HE := hidP (hHeld.2.2.2.2.2.2)
                  refine wpAnyH_done (by kernel_rfl) ?_ _
                  clear hHeld
                  go_wp2_with fail
                  go_meet
                  refine ⟨_, rfl, rfl, bl3, ?_, ?_, ?_, ?_, ?_, ?_, HE.out⟩
                  · simp; exact z4L
                  all_goals (simp [go_sem, z4x0, z4x1, z4x2, z4x3, z4x4])
              case rest =>
                obtain ⟨b, rfl, rfl, hb1, qL, q0, q1, q2, q3, q4, hX⟩ := hcut
                have HXB := hidP (HBel.out.trans (hX.mono HBel.out.size))
                have HXu := hidP (HBu.out.trans (hX.mono HBu.out.size))
                have E0 := (hX.cell BL).trans B0
                have E1 := (hX.cell BL).trans B1
                have E2 := (hX.cell BL).trans B2
                have EL : w.heap.size < wc.heap.size := Nat.lt_of_lt_of_le BL hX.size
                have f0 := (hX.cell hpL).trans d0
                have f1 := (hX.cell hpL).trans d1
                have f2 := (hX.cell hpL).trans d2
                have f3 := (hX.cell hpL).trans d3
                have f4 := (hX.cell hpL).trans d4
                have f5 := (hX.cell hpL).trans d5
                have fL : p < wc.heap.size := Nat.lt_of_lt_of_le hpL hX.size
                clear hX B0 B1 B2 B3 B4 B5 B6 B7 BL d0 d1 d2 d3 d4 d5 hpL HBq HBO
                cases r
                · have HF : Hid (ls.all (lieS bs) = false) := hidP (by rw [HPo.out, HLie.out]; rfl)
                  clear HPo HLie
                  go_wp2_with fail
                  have HSx : Hid (∀ x, Below wc.heap.size wc x → (x.cell? ⟨b, 4, none⟩ = some (.string y.t) ∧ x.cell? ⟨w.heap.size, 2, none⟩ = some (.slice (some ⟨p, o, none⟩) nl cl) ∧ x.cell? ⟨p, o + k * 6 + 3, none⟩ = some (.string q.t) ∧ Below wc.heap.size wc x)) := hidP fun x h =>
                    ⟨(h.cell qL).trans q4, (h.cell EL).trans E2, (h.cell fL).trans f3, h⟩
                  refine wp_region_held_drew (S := (fun x => x.cell? ⟨b, 4, none⟩ = some (.string y.t) ∧ x.cell? ⟨w.heap.size, 2, none⟩ = some (.slice (some ⟨p, o, none⟩) nl cl) ∧ x.cell? ⟨p, o + k * 6 + 3, none⟩ = some (.string q.t) ∧ Below wc.heap.size wc x)) (by kernel_rfl) ?_ (fun hHeld => ?_)
                  · try dsimp only
                    exact HSx.out _ ((Below.refl _ _).drew)
                  refine tk 0 48 rfl ?_; simp only [pa]
                  refine tk 1 49 rfl ?_; simp only [pa]
                  refine tk 2 50 rfl ?_; simp only [pa]
                  refine sk 3 51 rfl ?_; simp only [pa]
                  refine sk 4 52 rfl ?_; simp only [pa]
                  refine sk 5 53 rfl ?_; simp only [pa]
                  refine sk 6 54 rfl ?_; simp only [pa]
                  refine sk 7 55 rfl ?_; simp only [pa]
                  refine sk 8 56 rfl ?_; simp only [pa]
                  refine sk 9 57 rfl ?_; simp only [pa]
                  refine sk 10 58 rfl ?_; simp only [pa]
                  refine sk 11 59 rfl ?_; simp only [pa]
                  refine sk 12 60 rfl ?_; simp only [pa]
                  refine tk 13 61 rfl ?_; simp only [pa]
                  have HE := hidP (hHeld.2.2.2)
                  refine wpAnyH_done (by kernel_rfl) ?_ _
                  clear hHeld
                  go_wp2_with fail
                  go_ret
                  exact ⟨ret_b HF.out.symm, HXB.out.trans (HE.out.mono HXB.out.size)⟩
                · by_cases ho : y.t = q.t
                  · have HPn : Hid (ls.all (lieS bs) = (ls.drop (k + 1)).all (lieS bs)) := hidP (by rw [HPo.out, HLie.out, decide_eq_true ho]; rfl)
                    have ho1 : (y.t.toList == q.t.toList) = true := by rw [ho]; exact txt_eq _
                    have ho2 : decide (y.t = q.t) = true := decide_eq_true ho
                    clear HPo HLie
                    go_wp2_with fail
                    have HSx : Hid (∀ x, Below wc.heap.size wc x → (x.cell? ⟨b, 4, none⟩ = some (.string y.t) ∧ x.cell? ⟨w.heap.size, 2, none⟩ = some (.slice (some ⟨p, o, none⟩) nl cl) ∧ x.cell? ⟨p, o + k * 6 + 3, none⟩ = some (.string q.t) ∧ Below wc.heap.size wc x)) := hidP fun x h =>
                      ⟨(h.cell qL).trans q4, (h.cell EL).trans E2, (h.cell fL).trans f3, h⟩
                    refine wp_region_held_drew (S := (fun x => x.cell? ⟨b, 4, none⟩ = some (.string y.t) ∧ x.cell? ⟨w.heap.size, 2, none⟩ = some (.slice (some ⟨p, o, none⟩) nl cl) ∧ x.cell? ⟨p, o + k * 6 + 3, none⟩ = some (.string q.t) ∧ Below wc.heap.size wc x)) (by kernel_rfl) ?_ (fun hHeld => ?_)
                    · try dsimp only
                      exact HSx.out _ ((Below.refl _ _).drew)
                    refine tk 0 48 rfl ?_; simp only [pa]
                    refine tk 1 49 rfl ?_; simp only [pa]
                    refine tk 2 50 rfl ?_; simp only [pa]
                    refine tk 3 51 rfl ?_; simp only [pa]
                    refine tk 4 52 rfl ?_; simp only [pa]
                    refine tk 5 53 rfl ?_; simp only [pa]
                    refine tk 6 54 rfl ?_; simp only [pa]
                    refine tk 7 55 rfl ?_; simp only [pa]
                    refine tk 8 56 rfl ?_; simp only [pa]
                    refine tk 9 57 rfl ?_; simp only [pa]
                    refine tk 10 58 rfl ?_; simp only [pa]
                    refine tk 11 59 rfl ?_; simp only [pa]
                    refine tk 12 60 rfl ?_; simp only [pa]
                    refine tk 13 61 rfl ?_; simp only [pa]
                    have HE := hidP (hHeld.2.2.2)
                    refine wpAnyH_done (by kernel_rfl) ?_ _
                    clear hHeld
                    go_wp2_with fail
                    go_roundw
                    case rel => exact ⟨k + 1, by omega, by go_num, HPn.out, HXu.out.trans (HE.out.mono HXu.out.size)⟩
                    case measure => simp [intOf]; omega
                  · have ho1 := txt_ne ho
                    have ho2 : decide (y.t = q.t) = false := decide_eq_false ho
                    have HF : Hid (ls.all (lieS bs) = false) := hidP (by rw [HPo.out, HLie.out, ho2]; rfl)
                    clear HPo HLie
                    go_wp2_with fail
                    have HSx : Hid (∀ x, Below wc.heap.size wc x → (x.cell? ⟨b, 4, none⟩ = some (.string y.t) ∧ x.cell? ⟨w.heap.size, 2, none⟩ = some (.slice (some ⟨p, o, none⟩) nl cl) ∧ x.cell? ⟨p, o + k * 6 + 3, none⟩ = some (.string q.t) ∧ Below wc.heap.size wc x)) := hidP fun x h =>
                      ⟨(h.cell qL).trans q4, (h.cell EL).trans E2, (h.cell fL).trans f3, h⟩
                    refine wp_region_held_drew (S := (fun x => x.cell? ⟨b, 4, none⟩ = some (.string y.t) ∧ x.cell? ⟨w.heap.size, 2, none⟩ = some (.slice (some ⟨p, o, none⟩) nl cl) ∧ x.cell? ⟨p, o + k * 6 + 3, none⟩ = some (.string q.t) ∧ Below wc.heap.size wc x)) (by kernel_rfl) ?_ (fun hHeld => ?_)
                    · try dsimp only
                      exact HSx.out _ ((Below.refl _ _).drew)
                    refine tk 0 48 rfl ?_; simp only [pa]
                    refine tk 1 49 rfl ?_; simp only [pa]
                    refine tk 2 50 rfl ?_; simp only [pa]
                    refine tk 3 51 rfl ?_; simp only [pa]
                    refine tk 4 52 rfl ?_; simp only [pa]
                    refine tk 5 53 rfl ?_; simp only [pa]
                    refine tk 6 54 rfl ?_; simp only [pa]
                    refine tk 7 55 rfl ?_; simp only [pa]
                    refine tk 8 56 rfl ?_; simp only [pa]
                    refine tk 9 57 rfl ?_; simp only [pa]
                    refine tk 10 58 rfl ?_; simp only [pa]
                    refine tk 11 59 rfl ?_; simp only [pa]
                    refine tk 12 60 rfl ?_; simp only [pa]
                    refine tk 13 61 rfl ?_; simp only [pa]
                    have HE := hidP (hHeld.2.2.2)
                    refine wpAnyH_done (by kernel_rfl) ?_ _
                    clear hHeld
                    go_wp2_with fail
                    go_ret
                    exact ⟨ret_b HF.out.symm, HXB.out.trans (HE.out.mono HXB.out.size)⟩
            · have HX : Hid (ls.all (lieS bs) = true) := by
                rw [List.drop_of_length_le (by have := HN.out; omega)] at hpo
                exact hidP hpo
              clear hbel hpo
              go_wp2_with fail
              go_ret
              exact ⟨ret_b HX.out.symm, HBel.out⟩
        · have hc2 : C < 0 := of_decide_eq_true hc
          have hc3 : decide (0 ≤ C) = false := decide_eq_false (by omega)
          rw [hc3]
          clear HA hc3
          go_enter Tryz.func19, Tryz.ntmps19
          go_wp2_with fail
          obtain ⟨bx0_W1, bx1_W1, bx2_W1, bx3_W1, bx4_W1, bx5_W1, bx6_W1, bx7_W1⟩ := bx8 w 48 (.slice ap np cp) (.slice ab nb cb) (.slice al nl cl) (.int .i64 T) (.int .i64 N) (.slice aS ns cs) (.int .i64 X) (.int .i64 C)
          have bxF_W1 : ∀ o, (w.alloc (.cells #[.slice ap np cp, .slice ab nb cb, .slice al nl cl, .int .i64 T, .int .i64 N, .slice aS ns cs, .int .i64 X, .int .i64 C] 48)).frozen? ⟨w.heap.size, o, none⟩ = false := fun o => by simp [go_sem]
          have bxL_W1 : w.heap.size < (w.alloc (.cells #[.slice ap np cp, .slice ab nb cb, .slice al nl cl, .int .i64 T, .int .i64 N, .slice aS ns cs, .int .i64 X, .int .i64 C] 48)).heap.size := by simp
          have ab_W1 := alloc_below w (.cells #[.slice ap np cp, .slice ab nb cb, .slice al nl cl, .int .i64 T, .int .i64 N, .slice aS ns cs, .int .i64 X, .int .i64 C] 48)
          have as_W1 : Hid ((w.alloc (.cells #[.slice ap np cp, .slice ab nb cb, .slice al nl cl, .int .i64 T, .int .i64 N, .slice aS ns cs, .int .i64 X, .int .i64 C] 48)).heap.size = w.heap.size + 1) := hidP (by simp)
          generalize w.alloc (.cells #[.slice ap np cp, .slice ab nb cb, .slice al nl cl, .int .i64 T, .int .i64 N, .slice aS ns cs, .int .i64 X, .int .i64 C] 48) = W1 at *
          have acc_W1 := hidP (ab_W1)
          have sz_W1 : Hid (w.heap.size ≤ W1.heap.size) := hidP ab_W1.size
          clear ab_W1 
          refine (HP.out _ acc_W1.out).mono ?_
          rintro e u0 ⟨rfl, hb0⟩
          have bx0_u0 := (hb0.cell bxL_W1).trans bx0_W1
          have bx1_u0 := (hb0.cell bxL_W1).trans bx1_W1
          have bx2_u0 := (hb0.cell bxL_W1).trans bx2_W1
          have bx3_u0 := (hb0.cell bxL_W1).trans bx3_W1
          have bx4_u0 := (hb0.cell bxL_W1).trans bx4_W1
          have bx5_u0 := (hb0.cell bxL_W1).trans bx5_W1
          have bx6_u0 := (hb0.cell bxL_W1).trans bx6_W1
          have bx7_u0 := (hb0.cell bxL_W1).trans bx7_W1
          have bxF_u0 : ∀ o, u0.frozen? ⟨w.heap.size, o, none⟩ = false := fun o => (hb0.frozen bxL_W1).trans (bxF_W1 o)
          have bxL_u0 : w.heap.size < u0.heap.size := Nat.lt_of_lt_of_le bxL_W1 hb0.size
          have acc_u0 := hidP (acc_W1.out.trans (hb0.mono acc_W1.out.size))
          have sz_u0 : Hid (W1.heap.size ≤ u0.heap.size) := hidP hb0.size
          clear hb0 bx0_W1 bx1_W1 bx2_W1 bx3_W1 bx4_W1 bx5_W1 bx6_W1 bx7_W1 bxF_W1 bxL_W1 acc_W1
          go_wp2_with fail
          refine (HB.out _ acc_u0.out).mono ?_
          rintro e u1 ⟨rfl, hb1⟩
          have bx0_u1 := (hb1.cell bxL_u0).trans bx0_u0
          have bx1_u1 := (hb1.cell bxL_u0).trans bx1_u0
          have bx2_u1 := (hb1.cell bxL_u0).trans bx2_u0
          have bx3_u1 := (hb1.cell bxL_u0).trans bx3_u0
          have bx4_u1 := (hb1.cell bxL_u0).trans bx4_u0
          have bx5_u1 := (hb1.cell bxL_u0).trans bx5_u0
          have bx6_u1 := (hb1.cell bxL_u0).trans bx6_u0
          have bx7_u1 := (hb1.cell bxL_u0).trans bx7_u0
          have bxF_u1 : ∀ o, u1.frozen? ⟨w.heap.size, o, none⟩ = false := fun o => (hb1.frozen bxL_u0).trans (bxF_u0 o)
          have bxL_u1 : w.heap.size < u1.heap.size := Nat.lt_of_lt_of_le bxL_u0 hb1.size
          have acc_u1 := hidP (acc_u0.out.trans (hb1.mono acc_u0.out.size))
          have sz_u1 : Hid (u0.heap.size ≤ u1.heap.size) := hidP hb1.size
          clear hb1 bx0_u0 bx1_u0 bx2_u0 bx3_u0 bx4_u0 bx5_u0 bx6_u0 bx7_u0 bxF_u0 bxL_u0 acc_u0
          go_wp2_with fail
          refine (HD.out _ acc_u1.out).mono ?_
          rintro e u2 ⟨rfl, hb2⟩
          have bx0_u2 := (hb2.cell bxL_u1).trans bx0_u1
          have bx1_u2 := (hb2.cell bxL_u1).trans bx1_u1
          have bx2_u2 := (hb2.cell bxL_u1).trans bx2_u1
          have bx3_u2 := (hb2.cell bxL_u1).trans bx3_u1
          have bx4_u2 := (hb2.cell bxL_u1).trans bx4_u1
          have bx5_u2 := (hb2.cell bxL_u1).trans bx5_u1
          have bx6_u2 := (hb2.cell bxL_u1).trans bx6_u1
          have bx7_u2 := (hb2.cell bxL_u1).trans bx7_u1
          have bxF_u2 : ∀ o, u2.frozen? ⟨w.heap.size, o, none⟩ = false := fun o => (hb2.frozen bxL_u1).trans (bxF_u1 o)
          have bxL_u2 : w.heap.size < u2.heap.size := Nat.lt_of_lt_of_le bxL_u1 hb2.size
          have acc_u2 := hidP (acc_u1.out.trans (hb2.mono acc_u1.out.size))
          have sz_u2 : Hid (u1.heap.size ≤ u2.heap.size) := hidP hb2.size
          clear hb2 bx0_u1 bx1_u1 bx2_u1 bx3_u1 bx4_u1 bx5_u1 bx6_u1 bx7_u1 bxF_u1 bxL_u1 acc_u1
          go_wp2_with fail
          go_ret
          exact ⟨rfl, acc_u2.out⟩

end Go.Proofs.YtngcbhbcocnbeaaGreat
namespace Go.Proofs.YtngcbhbcocnbeaaGreat
open Go.RowKit

set_option maxRecDepth 10000 in
set_option maxHeartbeats 4000000 in
theorem sPutS_no (ap : Option Addr) (np cp : Nat) (ab : Option Addr) (nb cb : Nat) (al : Option Addr) (nl cl : Nat) (T N : Int) (aS : Option Addr) (ns cs : Nat) (X C : Int) (w : World)
    (hr : ∀ W : World, Below w.heap.size w W → Calls Tryz.prog 19 #[.agg #[.slice ap np cp, .slice ab nb cb, .slice al nl cl, .int .i64 T, .int .i64 N, .slice aS ns cs, .int .i64 X, .int .i64 C]] W fun e w' => e = .returned (.bool false) ∧ Below W.heap.size W w') :
    Calls Tryz.prog 6 #[.agg #[.slice ap np cp, .slice ab nb cb, .slice al nl cl, .int .i64 T, .int .i64 N, .slice aS ns cs, .int .i64 X, .int .i64 C]] w fun e w' => ∃ g c, e = .returned (.slice (some ⟨g, 0, none⟩) ([] : List Int).length c) ∧ Own w' w.heap.size (.slice (some ⟨g, 0, none⟩) ([] : List Int).length c) ([] : List Int) ∧ Below w.heap.size w w' := by
  have HR := hidP hr
  clear hr
  go_enter Tryz.func6, Tryz.ntmps6
  go_wp2_with fail
  refine (HR.out _ (alloc_below w _)).mono ?_
  rintro e W ⟨rfl, hb⟩
  have HB := hidP ((alloc_below w _).trans (hb.mono (alloc_below w _).size))
  have hs := HB.out.size
  clear hb
  go_wp2_with fail
  go_ret
  exact ⟨_, _, rfl, own_nil W w.heap.size hs, HB.out.trans ((alloc_below W _).mono hs)⟩

set_option maxRecDepth 10000 in
set_option maxHeartbeats 4000000 in
theorem iPutS_no (ap : Option Addr) (np cp : Nat) (ab : Option Addr) (nb cb : Nat) (al : Option Addr) (nl cl : Nat) (T N : Int) (aS : Option Addr) (ns cs : Nat) (X C : Int) (w : World)
    (hr : ∀ W : World, Below w.heap.size w W → Calls Tryz.prog 28 #[.agg #[.slice ap np cp, .slice ab nb cb, .slice al nl cl, .int .i64 T, .int .i64 N, .slice aS ns cs, .int .i64 X, .int .i64 C]] W fun e w' => e = .returned (.bool false) ∧ Below W.heap.size W w') :
    Calls Tryz.prog 8 #[.agg #[.slice ap np cp, .slice ab nb cb, .slice al nl cl, .int .i64 T, .int .i64 N, .slice aS ns cs, .int .i64 X, .int .i64 C]] w fun e w' => ∃ g c, e = .returned (.slice (some ⟨g, 0, none⟩) ([] : List Int).length c) ∧ Own w' w.heap.size (.slice (some ⟨g, 0, none⟩) ([] : List Int).length c) ([] : List Int) ∧ Below w.heap.size w w' := by
  have HR := hidP hr
  clear hr
  go_enter Tryz.func8, Tryz.ntmps8
  go_wp2_with fail
  refine (HR.out _ (alloc_below w _)).mono ?_
  rintro e W ⟨rfl, hb⟩
  have HB := hidP ((alloc_below w _).trans (hb.mono (alloc_below w _).size))
  have hs := HB.out.size
  clear hb
  go_wp2_with fail
  go_ret
  exact ⟨_, _, rfl, own_nil W w.heap.size hs, HB.out.trans ((alloc_below W _).mono hs)⟩

theorem putS_both (np nb nl ns : Nat) (T N X C : Int) (ps : List Pl) (bs : List Bk) (ls : List Ls) (ss : List Ss) (hnp : np = ps.length) (hnb : nb = bs.length) (hnl : nl = ls.length) (hns : ns = ss.length) (hlp : np ≤ 1048576) (hlb : nb ≤ 1048576) (hll : nl ≤ 1048576) (hls : ns ≤ 1048576) (hsb : ∀ q ∈ bs, q.t.size ≤ 9223372036854775807) (hsl : ∀ q ∈ ls, q.t.size ≤ 9223372036854775807) :
    ∃ Zf : List Int, Zf.length ≤ 18000 ∧ (Zf = [] ∨ Zf = (partsB ps bs ls T N ss X C).flatten) ∧ (∀ (ap ab al aS : Option Addr) (cp cb cl cs : Nat) (W : World), RowG KPl W ap ps → RowG KBk W ab bs → RowG KLs W al ls → RowG KSs W aS ss → Calls Tryz.prog 6 #[.agg #[.slice ap np cp, .slice ab nb cb, .slice al nl cl, .int .i64 T, .int .i64 N, .slice aS ns cs, .int .i64 X, .int .i64 C]] W fun e w' => ∃ g c, e = .returned (.slice (some ⟨g, 0, none⟩) Zf.length c) ∧ Own w' W.heap.size (.slice (some ⟨g, 0, none⟩) Zf.length c) Zf ∧ Below W.heap.size W w') ∧
      (∀ (ap ab al aS : Option Addr) (cp cb cl cs : Nat) (W : World), RowG KPl W ap ps → RowG KBk W ab bs → RowG KLs W al ls → RowG KSs W aS ss → Calls Tryz.prog 8 #[.agg #[.slice ap np cp, .slice ab nb cb, .slice al nl cl, .int .i64 T, .int .i64 N, .slice aS ns cs, .int .i64 X, .int .i64 C]] W fun e w' => ∃ g c, e = .returned (.slice (some ⟨g, 0, none⟩) Zf.length c) ∧ Own w' W.heap.size (.slice (some ⟨g, 0, none⟩) Zf.length c) Zf ∧ Below W.heap.size W w') := by
  cases hst : stB ps bs ls T N ss X C
  · refine ⟨[], by simp, Or.inl rfl, fun ap ab al aS cp cb cl cs W e1 e2 e3 e4 => ?_, fun ap ab al aS cp cb cl cs W e1 e2 e3 e4 => ?_⟩
    · refine sPutS_no ap np cp ab nb cb al nl cl T N aS ns cs X C W (fun V h => ?_)
      have := sStateOk_any ap np cp ab nb cb al nl cl T N aS ns cs X C ps bs ls ss V hnp hnb hnl hns (e1.later h) (e2.later h) (e3.later h) (e4.later h) hlp hlb hll hls hsb hsl
      rw [hst] at this; exact this
    · refine iPutS_no ap np cp ab nb cb al nl cl T N aS ns cs X C W (fun V h => ?_)
      have := iStateOk_any ap np cp ab nb cb al nl cl T N aS ns cs X C ps bs ls ss V hnp hnb hnl hns (e1.later h) (e2.later h) (e3.later h) (e4.later h) hlp hlb hll hls hsb hsl
      rw [hst] at this; exact this
  · have hb := st_bnd hst
    have hl := parts_len T N X C hb
    refine ⟨_, hl.2, Or.inr rfl, fun ap ab al aS cp cb cl cs W e1 e2 e3 e4 => ?_, fun ap ab al aS cp cb cl cs W e1 e2 e3 e4 => ?_⟩
    · refine sPutS_yes ap np cp ab nb cb al nl cl T N aS ns cs X C ps bs ls ss W hnp hnb hnl hns e1 e2 e3 e4 hb _ rfl hl.2 (fun V h => ?_)
      have := sStateOk_any ap np cp ab nb cb al nl cl T N aS ns cs X C ps bs ls ss V hnp hnb hnl hns (e1.later h) (e2.later h) (e3.later h) (e4.later h) hlp hlb hll hls hsb hsl
      rw [hst] at this; exact this
    · refine iPutS_yes ap np cp ab nb cb al nl cl T N aS ns cs X C ps bs ls ss W hnp hnb hnl hns e1 e2 e3 e4 hb _ rfl hl.1 hl.2 (fun V h => ?_)
      have := iStateOk_any ap np cp ab nb cb al nl cl T N aS ns cs X C ps bs ls ss V hnp hnb hnl hns (e1.later h) (e2.later h) (e3.later h) (e4.later h) hlp hlb hll hls hsb hsl
      rw [hst] at this; exact this

end Go.Proofs.YtngcbhbcocnbeaaGreat
