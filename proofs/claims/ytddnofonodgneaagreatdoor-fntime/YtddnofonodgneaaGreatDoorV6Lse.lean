/-
  The program's looks at one lease and at all of a book.
-/
import Derived.Test.YtddnofonodgneaaGreatDoorVBookS
import Derived.Deep.RegionWith
import Derived.Deep.RegionHeld3
namespace Go.Proofs.YtddnofonodgneaaGreatDoor
open Go.RowKit

theorem boxLs {q : Ls} (w : World) (t : TypeId) : (w.alloc (.cells #[.bool q.a.s, .int .i64 q.a.H.toInt, .int .i64 q.a.L.toInt, .string q.t, .int .i64 q.k, .int .i64 q.u] t)).cell? ⟨w.heap.size, 0, none⟩ = some (.bool q.a.s) ∧ (w.alloc (.cells #[.bool q.a.s, .int .i64 q.a.H.toInt, .int .i64 q.a.L.toInt, .string q.t, .int .i64 q.k, .int .i64 q.u] t)).cell? ⟨w.heap.size, 1, none⟩ = some (.int .i64 q.a.H.toInt) ∧ (w.alloc (.cells #[.bool q.a.s, .int .i64 q.a.H.toInt, .int .i64 q.a.L.toInt, .string q.t, .int .i64 q.k, .int .i64 q.u] t)).cell? ⟨w.heap.size, 2, none⟩ = some (.int .i64 q.a.L.toInt) ∧ (w.alloc (.cells #[.bool q.a.s, .int .i64 q.a.H.toInt, .int .i64 q.a.L.toInt, .string q.t, .int .i64 q.k, .int .i64 q.u] t)).cell? ⟨w.heap.size, 3, none⟩ = some (.string q.t) ∧ (w.alloc (.cells #[.bool q.a.s, .int .i64 q.a.H.toInt, .int .i64 q.a.L.toInt, .string q.t, .int .i64 q.k, .int .i64 q.u] t)).cell? ⟨w.heap.size, 4, none⟩ = some (.int .i64 q.k) ∧ (w.alloc (.cells #[.bool q.a.s, .int .i64 q.a.H.toInt, .int .i64 q.a.L.toInt, .string q.t, .int .i64 q.k, .int .i64 q.u] t)).cell? ⟨w.heap.size, 5, none⟩ = some (.int .i64 q.u) := by
  have h := own_oneG KLs w 0 t q (Nat.zero_le _)
  exact ⟨World.ownsRow.cellAt h 0 (by show 0 < 1 * 6; omega), World.ownsRow.cellAt h 1 (by show 1 < 1 * 6; omega), World.ownsRow.cellAt h 2 (by show 2 < 1 * 6; omega), World.ownsRow.cellAt h 3 (by show 3 < 1 * 6; omega), World.ownsRow.cellAt h 4 (by show 4 < 1 * 6; omega), World.ownsRow.cellAt h 5 (by show 5 < 1 * 6; omega)⟩
theorem below_box {B : Nat} {w wr W x : World} (h1 : Below B w wr) (hB : B ≤ wr.heap.size) (h2 : Below wr.heap.size wr W) (h3 : Below W.heap.size W x) : Below B w x :=
  (h1.trans (h2.mono hB)).trans (h3.mono (Nat.le_trans hB h2.size))
theorem cmpW_ge (a b : Nat) : decide (0 ≤ cmpW (a : Int) (b : Int)) = !decide (a < b) := by
  unfold cmpW
  by_cases h : (a : Int) < b
  · rw [if_pos h, decide_eq_true (show a < b by omega)]; rfl
  · rw [if_neg h, decide_eq_false (show ¬ a < b by omega)]
    split <;> rfl
set_option maxRecDepth 10000 in
set_option maxHeartbeats 4000000 in
theorem leaseOk_any (a : Option Addr) (n c : Nat) (T N : Int) (q : Ls) (hs : q.t.size ≤ 9223372036854775807) (w : World) :
    Calls Tryz.prog 53 #[.agg #[.slice a n c, .int .i64 T, .int .i64 N], .agg #[.bool q.a.s, .int .i64 q.a.H.toInt, .int .i64 q.a.L.toInt, .string q.t, .int .i64 q.k, .int .i64 q.u]] w fun e w' => e = .returned (.bool (okLs T N q)) ∧ Below w.heap.size w w' := by
  have HA := hidP (iAddrOk_any q.a.s q.a.H.toInt q.a.L.toInt)
  have HO := hidP (fun w => iOwnerOk_any q.t w hs)
  have hv : okLs T N q = ((okB q.a.s q.a.H.toInt q.a.L.toInt && ownB q.t) && ((decide (1 ≤ q.k) && decide (q.k ≤ T)) && (decide (N < q.u) && decide (q.u ≤ 1000000000)))) := rfl
  rw [hv]
  clear hv
  generalize okB q.a.s q.a.H.toInt q.a.L.toInt = A at *
  generalize ownB q.t = O at *
  cases A
  · cases h1 : decide (1 ≤ q.k) <;> cases h3 : decide (N < q.u)
    all_goals
      go_enter Tryz.func53, Tryz.ntmps53
      go_wp2_with fail
      refine (HA.out _).mono ?_
      rintro e w2 ⟨rfl, hb2⟩
      have HB2 := hidP hb2
      clear hb2
      go_wp2_with fail
      go_ret
      exact ⟨rfl, ((alloc_below w _).alloc (by simp) _).trans (HB2.out.mono (by simp; omega))⟩
  · cases O <;> cases h1 : decide (1 ≤ q.k) <;> cases h2 : decide (q.k ≤ T) <;> cases h3 : decide (N < q.u)
    all_goals
      go_enter Tryz.func53, Tryz.ntmps53
      go_wp2_with fail
      refine (HA.out _).mono ?_
      rintro e w2 ⟨rfl, hb2⟩
      have hc : w2.cell? ⟨w.heap.size + 1, 3, none⟩ = some (.string q.t) := (hb2.cell (by simp)).trans (by simp [go_sem])
      have HB2 := hidP hb2
      clear hb2
      go_wp2_with fail
      refine (HO.out _).mono ?_
      rintro e w3 ⟨rfl, rfl⟩
      go_wp2_with fail
      go_ret
      exact ⟨rfl, ((alloc_below w _).alloc (by simp) _).trans (HB2.out.mono (by simp; omega))⟩

set_option maxRecDepth 10000 in
set_option maxHeartbeats 2000000 in
theorem leasesOk_any (a : Option Addr) (n c : Nat) (T N : Int) (ls : List Ls) (w : World) (hn : n = ls.length) (hB : RowG KLs w a ls) (hl : n ≤ 9000000000) (hst : ∀ q ∈ ls, q.t.size ≤ 9223372036854775807) :
    Calls Tryz.prog 38 #[.agg #[.slice a n c, .int .i64 T, .int .i64 N]] w fun e w' => e = .returned (.bool (leasesF T N none ls)) ∧ Below w.heap.size w w' := by
  have HB := hidP (fun W h => hB.later (w' := W) h)
  have HN := hidP hn
  have HST := hidP hst
  clear hB hn hst
  go_enter Tryz.func38, Tryz.ntmps38
  go_wp2_with fail
  obtain ⟨b0, b1, b2⟩ := box3B w 26 (.slice a n c) (.int .i64 T) (.int .i64 N)
  have bB := alloc_below w (.cells #[.slice a n c, .int .i64 T, .int .i64 N] 26)
  have bL := alloc_lt w (.cells #[.slice a n c, .int .i64 T, .int .i64 N] 26)
  have bS : (w.alloc (.cells #[.slice a n c, .int .i64 T, .int .i64 N] 26)).heap.size = w.heap.size + 1 := by simp
  generalize w.alloc (.cells #[.slice a n c, .int .i64 T, .int .i64 N] 26) = W1 at *
  have HR := hidP (HB.out _ bB)
  have HU := hidP bB
  clear bB HB
  go_loopw [3, 4, 8] (fun _ _ t8 wr => ∃ k : Nat, k ≤ n ∧ t8 = .int .i64 k ∧ leasesF T N none ls = leasesF T N (prvL ls k) (ls.drop k) ∧ (∀ r, prvL ls k = some r → r.ok = true) ∧ Below W1.heap.size W1 wr) (fun _ _ t8 _ => n - (intOf t8).toNat)
  case atStart => exact ⟨0, Nat.zero_le _, rfl, rfl, (fun r h => by cases h), Below.refl _ _⟩
  case round =>
    obtain ⟨k, hk, rfl, hpo, hpr, hbel⟩ := hrel
    have B0 := (hbel.cell bL).trans b0
    have B1 := (hbel.cell bL).trans b1
    have B2 := (hbel.cell bL).trans b2
    have BL : w.heap.size < wr.heap.size := Nat.lt_of_lt_of_le bL hbel.size
    by_cases hlt : k < n
    · obtain ⟨p, o, q, rfl, hp, hq, c0, c1, c2, c3, c4, c5⟩ := rowLs HR.out k (by rw [← HN.out]; exact hlt)
      have d0 := (hbel.cell hp).trans c0
      have d1 := (hbel.cell hp).trans c1
      have d2 := (hbel.cell hp).trans c2
      have d3 := (hbel.cell hp).trans c3
      have d4 := (hbel.cell hp).trans c4
      have d5 := (hbel.cell hp).trans c5
      have hpw : p < wr.heap.size := Nat.lt_of_lt_of_le hp hbel.size
      rw [drop_at hq] at hpo
      have hpo' : leasesF T N none ls = ((okLs T N q && ascA (prvL ls k) q.a) && leasesF T N (some q.a) (ls.drop (k + 1))) := hpo
      have HNx := hidP (prvL_next hq)
      have HPo := hidP hpo'
      have HPr := hidP hpr
      have HBel := hidP hbel
      have HP1 := hidP (leaseOk_any (some ⟨p, o, none⟩) n c T N q (HST.out q (List.mem_of_getElem? hq)))
      clear c0 c1 c2 c3 c4 c5 hq hpo hpo' hpr hbel b0 b1 b2
      cases hok : okLs T N q
      · rw [hok] at HP1 HPo
        have HF : Hid (leasesF T N none ls = false) := hidP (by rw [HPo.out]; rfl)
        clear HPo HPr HNx
        go_wp2_with fail
        obtain ⟨x0, x1, x2, x3, x4, x5⟩ := boxLs (q := q) wr 35
        have xB := alloc_below wr (.cells #[.bool q.a.s, .int .i64 q.a.H.toInt, .int .i64 q.a.L.toInt, .string q.t, .int .i64 q.k, .int .i64 q.u] 35)
        have xL := alloc_lt wr (.cells #[.bool q.a.s, .int .i64 q.a.H.toInt, .int .i64 q.a.L.toInt, .string q.t, .int .i64 q.k, .int .i64 q.u] 35)
        have xS : (wr.alloc (.cells #[.bool q.a.s, .int .i64 q.a.H.toInt, .int .i64 q.a.L.toInt, .string q.t, .int .i64 q.k, .int .i64 q.u] 35)).heap.size = wr.heap.size + 1 := by simp
        generalize wr.alloc (.cells #[.bool q.a.s, .int .i64 q.a.H.toInt, .int .i64 q.a.L.toInt, .string q.t, .int .i64 q.k, .int .i64 q.u] 35) = W2 at *
        have D0 := (xB.cell BL).trans B0
        have D1 := (xB.cell BL).trans B1
        have D2 := (xB.cell BL).trans B2
        have DL : w.heap.size < W2.heap.size := Nat.lt_of_lt_of_le BL xB.size
        have HXB := hidP xB
        clear xS
        clear xB
        have HSx : Hid (∀ x, Below W2.heap.size W2 x → (x.cell? ⟨w.heap.size, 0, none⟩ = some (.slice (some ⟨p, o, none⟩) n c) ∧ x.cell? ⟨w.heap.size, 1, none⟩ = some (.int .i64 T) ∧ x.cell? ⟨w.heap.size, 2, none⟩ = some (.int .i64 N) ∧ x.cell? ⟨wr.heap.size, 0, none⟩ = some (.bool q.a.s) ∧ x.cell? ⟨wr.heap.size, 1, none⟩ = some (.int .i64 q.a.H.toInt) ∧ x.cell? ⟨wr.heap.size, 2, none⟩ = some (.int .i64 q.a.L.toInt) ∧ x.cell? ⟨wr.heap.size, 3, none⟩ = some (.string q.t) ∧ x.cell? ⟨wr.heap.size, 4, none⟩ = some (.int .i64 q.k) ∧ x.cell? ⟨wr.heap.size, 5, none⟩ = some (.int .i64 q.u) ∧ Below W2.heap.size W2 x)) := hidP fun x h =>
          ⟨(h.cell DL).trans D0, (h.cell DL).trans D1, (h.cell DL).trans D2, (h.cell xL).trans x0, (h.cell xL).trans x1, (h.cell xL).trans x2, (h.cell xL).trans x3, (h.cell xL).trans x4, (h.cell xL).trans x5, h⟩
        refine wp_region_held_drew (S := (fun x => x.cell? ⟨w.heap.size, 0, none⟩ = some (.slice (some ⟨p, o, none⟩) n c) ∧ x.cell? ⟨w.heap.size, 1, none⟩ = some (.int .i64 T) ∧ x.cell? ⟨w.heap.size, 2, none⟩ = some (.int .i64 N) ∧ x.cell? ⟨wr.heap.size, 0, none⟩ = some (.bool q.a.s) ∧ x.cell? ⟨wr.heap.size, 1, none⟩ = some (.int .i64 q.a.H.toInt) ∧ x.cell? ⟨wr.heap.size, 2, none⟩ = some (.int .i64 q.a.L.toInt) ∧ x.cell? ⟨wr.heap.size, 3, none⟩ = some (.string q.t) ∧ x.cell? ⟨wr.heap.size, 4, none⟩ = some (.int .i64 q.k) ∧ x.cell? ⟨wr.heap.size, 5, none⟩ = some (.int .i64 q.u) ∧ Below W2.heap.size W2 x)) (by kernel_rfl) ?_ (fun hHeld => ?_)
        · try dsimp only
          exact HSx.out _ ((Below.refl _ _).drew)
        refine wpAnyH_take (i := 0) (oi := ⟨some 13, _, _, _, _, _⟩) (v := ?_) rfl (by kernel_rfl) (by kernel_rfl) (by kernel_rfl) (fun _ _ _ h => h) (Or.inl ⟨by rfl, ?_⟩) (by assumption) ?_
        rotate_left
        · intro w hSw
          try dsimp only at hSw
          go_simp
          try with_reducible rfl
        simp only [Act.put, List.setIfInBounds_toArray, List.set_cons_zero, List.set_cons_succ]
        refine wpAnyH_take (i := 1) (oi := ⟨some 14, _, _, _, _, _⟩) (v := ?_) rfl (by kernel_rfl) (by kernel_rfl) (by kernel_rfl) (fun _ _ _ h => h) (Or.inl ⟨by rfl, ?_⟩) (by assumption) ?_
        rotate_left
        · intro w hSw
          try dsimp only at hSw
          go_simp
          try with_reducible rfl
        simp only [Act.put, List.setIfInBounds_toArray, List.set_cons_zero, List.set_cons_succ]
        refine wpAnyH_ready (rs := [2]) (by kernel_rfl) (by simp) ?_
        refine AllReadyH.cons rfl (fun K hK => ?_) AllReadyH.nil
        go_simp
        go_wp2_with (first | (go_at_call 53; refine (HP1.out _).mono ?_; rintro e w2 ⟨rfl, hb2⟩; have b2 := (hHeld.2.2.2.2.2.2.2.2.2).trans (hb2.mono (hHeld.2.2.2.2.2.2.2.2.2).size)))
        refine hK.out _ _ ?_ (fun hHeld => ?_)
        · try dsimp only
          exact HSx.out _ b2
        clear hK K
        refine wpAnyH_take (i := 3) (oi := ⟨some 16, _, _, _, _, _⟩) (v := ?_) rfl (by kernel_rfl) (by kernel_rfl) (by kernel_rfl) (fun _ _ _ h => h) (Or.inl ⟨by rfl, ?_⟩) (by assumption) ?_
        rotate_left
        · intro w hSw
          try dsimp only at hSw
          go_simp
          try with_reducible rfl
        simp only [Act.put, List.setIfInBounds_toArray, List.set_cons_zero, List.set_cons_succ]
        refine wpAnyH_take (i := 4) (oi := ⟨some 17, _, _, _, _, _⟩) (v := ?_) rfl (by kernel_rfl) (by kernel_rfl) (by kernel_rfl) (fun _ _ _ h => h) (Or.inl ⟨by rfl, ?_⟩) (by assumption) ?_
        rotate_left
        · intro w hSw
          try dsimp only at hSw
          go_simp
          try with_reducible rfl
        simp only [Act.put, List.setIfInBounds_toArray, List.set_cons_zero, List.set_cons_succ]
        refine wpAnyH_take (i := 5) (oi := ⟨some 18, _, _, _, _, _⟩) (v := undef) rfl (by kernel_rfl) (by kernel_rfl) (by kernel_rfl) (fun _ _ _ h => h) (Or.inr ⟨by rfl, rfl⟩) (by assumption) ?_
        simp only [Act.put, List.setIfInBounds_toArray, List.set_cons_zero, List.set_cons_succ]
        refine wpAnyH_take (i := 6) (oi := ⟨some 19, _, _, _, _, _⟩) (v := undef) rfl (by kernel_rfl) (by kernel_rfl) (by kernel_rfl) (fun _ _ _ h => h) (Or.inr ⟨by rfl, rfl⟩) (by assumption) ?_
        simp only [Act.put, List.setIfInBounds_toArray, List.set_cons_zero, List.set_cons_succ]
        refine wpAnyH_take (i := 7) (oi := ⟨some 20, _, _, _, _, _⟩) (v := undef) rfl (by kernel_rfl) (by kernel_rfl) (by kernel_rfl) (fun _ _ _ h => h) (Or.inr ⟨by rfl, rfl⟩) (by assumption) ?_
        simp only [Act.put, List.setIfInBounds_toArray, List.set_cons_zero, List.set_cons_succ]
        refine wpAnyH_take (i := 8) (oi := ⟨some 21, _, _, _, _, _⟩) (v := undef) rfl (by kernel_rfl) (by kernel_rfl) (by kernel_rfl) (fun _ _ _ h => h) (Or.inr ⟨by rfl, rfl⟩) (by assumption) ?_
        simp only [Act.put, List.setIfInBounds_toArray, List.set_cons_zero, List.set_cons_succ]
        refine wpAnyH_take (i := 9) (oi := ⟨some 22, _, _, _, _, _⟩) (v := undef) rfl (by kernel_rfl) (by kernel_rfl) (by kernel_rfl) (fun _ _ _ h => h) (Or.inr ⟨by rfl, rfl⟩) (by assumption) ?_
        simp only [Act.put, List.setIfInBounds_toArray, List.set_cons_zero, List.set_cons_succ]
        refine wpAnyH_take (i := 10) (oi := ⟨some 23, _, _, _, _, _⟩) (v := undef) rfl (by kernel_rfl) (by kernel_rfl) (by kernel_rfl) (fun _ _ _ h => h) (Or.inr ⟨by rfl, rfl⟩) (by assumption) ?_
        simp only [Act.put, List.setIfInBounds_toArray, List.set_cons_zero, List.set_cons_succ]
        refine wpAnyH_take (i := 11) (oi := ⟨some 24, _, _, _, _, _⟩) (v := undef) rfl (by kernel_rfl) (by kernel_rfl) (by kernel_rfl) (fun _ _ _ h => h) (Or.inr ⟨by rfl, rfl⟩) (by assumption) ?_
        simp only [Act.put, List.setIfInBounds_toArray, List.set_cons_zero, List.set_cons_succ]
        refine wpAnyH_take (i := 12) (oi := ⟨some 25, _, _, _, _, _⟩) (v := undef) rfl (by kernel_rfl) (by kernel_rfl) (by kernel_rfl) (fun _ _ _ h => h) (Or.inr ⟨by rfl, rfl⟩) (by assumption) ?_
        simp only [Act.put, List.setIfInBounds_toArray, List.set_cons_zero, List.set_cons_succ]
        refine wpAnyH_take (i := 13) (oi := ⟨some 26, _, _, _, _, _⟩) (v := undef) rfl (by kernel_rfl) (by kernel_rfl) (by kernel_rfl) (fun _ _ _ h => h) (Or.inr ⟨by rfl, rfl⟩) (by assumption) ?_
        simp only [Act.put, List.setIfInBounds_toArray, List.set_cons_zero, List.set_cons_succ]
        refine wpAnyH_take (i := 14) (oi := ⟨some 27, _, _, _, _, _⟩) (v := undef) rfl (by kernel_rfl) (by kernel_rfl) (by kernel_rfl) (fun _ _ _ h => h) (Or.inr ⟨by rfl, rfl⟩) (by assumption) ?_
        simp only [Act.put, List.setIfInBounds_toArray, List.set_cons_zero, List.set_cons_succ]
        refine wpAnyH_take (i := 15) (oi := ⟨some 28, _, _, _, _, _⟩) (v := undef) rfl (by kernel_rfl) (by kernel_rfl) (by kernel_rfl) (fun _ _ _ h => h) (Or.inr ⟨by rfl, rfl⟩) (by assumption) ?_
        simp only [Act.put, List.setIfInBounds_toArray, List.set_cons_zero, List.set_cons_succ]
        refine wpAnyH_take (i := 16) (oi := ⟨some 29, _, _, _, _, _⟩) (v := undef) rfl (by kernel_rfl) (by kernel_rfl) (by kernel_rfl) (fun _ _ _ h => h) (Or.inr ⟨by rfl, rfl⟩) (by assumption) ?_
        simp only [Act.put, List.setIfInBounds_toArray, List.set_cons_zero, List.set_cons_succ]
        refine wpAnyH_take (i := 17) (oi := ⟨some 30, _, _, _, _, _⟩) (v := undef) rfl (by kernel_rfl) (by kernel_rfl) (by kernel_rfl) (fun _ _ _ h => h) (Or.inr ⟨by rfl, rfl⟩) (by assumption) ?_
        simp only [Act.put, List.setIfInBounds_toArray, List.set_cons_zero, List.set_cons_succ]
        refine wpAnyH_take (i := 18) (oi := ⟨some 31, _, _, _, _, _⟩) (v := undef) rfl (by kernel_rfl) (by kernel_rfl) (by kernel_rfl) (fun _ _ _ h => h) (Or.inr ⟨by rfl, rfl⟩) (by assumption) ?_
        simp only [Act.put, List.setIfInBounds_toArray, List.set_cons_zero, List.set_cons_succ]
        refine wpAnyH_take (i := 19) (oi := ⟨some 32, _, _, _, _, _⟩) (v := undef) rfl (by kernel_rfl) (by kernel_rfl) (by kernel_rfl) (fun _ _ _ h => h) (Or.inr ⟨by rfl, rfl⟩) (by assumption) ?_
        simp only [Act.put, List.setIfInBounds_toArray, List.set_cons_zero, List.set_cons_succ]
        refine wpAnyH_take (i := 20) (oi := ⟨some 33, _, _, _, _, _⟩) (v := ?_) rfl (by kernel_rfl) (by kernel_rfl) (by kernel_rfl) (fun _ _ _ h => h) (Or.inl ⟨by rfl, ?_⟩) (by assumption) ?_
        rotate_left
        · intro w hSw
          try dsimp only at hSw
          go_simp
          try with_reducible rfl
        simp only [Act.put, List.setIfInBounds_toArray, List.set_cons_zero, List.set_cons_succ]
        have HE := hidP (hHeld.2.2.2.2.2.2.2.2.2)
        refine wpAnyH_done (by kernel_rfl) ?_ _
        clear hHeld
        go_wp2_with fail
        go_ret
        exact ⟨ret_b HF.out.symm, HU.out.trans ((below_box HBel.out HBel.out.size HXB.out HE.out).mono HU.out.size)⟩
      · rw [hok] at HP1 HPo
        have HOk := hidP (okLs_ok hok)
        by_cases hk0 : k = 0
        · have g0 : decide ((0 : Int) < (k : Int)) = false := decide_eq_false (by omega)
          have g1 : decide (0 < k) = false := decide_eq_false (by omega)
          have HF : Hid (leasesF T N none ls = leasesF T N (some q.a) (ls.drop (k + 1))) := hidP (by rw [HPo.out, hk0]; rfl)
          clear HPo HPr hk0
          go_wp2_with fail
          obtain ⟨x0, x1, x2, x3, x4, x5⟩ := boxLs (q := q) wr 35
          have xB := alloc_below wr (.cells #[.bool q.a.s, .int .i64 q.a.H.toInt, .int .i64 q.a.L.toInt, .string q.t, .int .i64 q.k, .int .i64 q.u] 35)
          have xL := alloc_lt wr (.cells #[.bool q.a.s, .int .i64 q.a.H.toInt, .int .i64 q.a.L.toInt, .string q.t, .int .i64 q.k, .int .i64 q.u] 35)
          have xS : (wr.alloc (.cells #[.bool q.a.s, .int .i64 q.a.H.toInt, .int .i64 q.a.L.toInt, .string q.t, .int .i64 q.k, .int .i64 q.u] 35)).heap.size = wr.heap.size + 1 := by simp
          generalize wr.alloc (.cells #[.bool q.a.s, .int .i64 q.a.H.toInt, .int .i64 q.a.L.toInt, .string q.t, .int .i64 q.k, .int .i64 q.u] 35) = W2 at *
          have D0 := (xB.cell BL).trans B0
          have D1 := (xB.cell BL).trans B1
          have D2 := (xB.cell BL).trans B2
          have DL : w.heap.size < W2.heap.size := Nat.lt_of_lt_of_le BL xB.size
          have HXB := hidP xB
          clear xS
          clear xB
          have HSx : Hid (∀ x, Below W2.heap.size W2 x → (x.cell? ⟨w.heap.size, 0, none⟩ = some (.slice (some ⟨p, o, none⟩) n c) ∧ x.cell? ⟨w.heap.size, 1, none⟩ = some (.int .i64 T) ∧ x.cell? ⟨w.heap.size, 2, none⟩ = some (.int .i64 N) ∧ x.cell? ⟨wr.heap.size, 0, none⟩ = some (.bool q.a.s) ∧ x.cell? ⟨wr.heap.size, 1, none⟩ = some (.int .i64 q.a.H.toInt) ∧ x.cell? ⟨wr.heap.size, 2, none⟩ = some (.int .i64 q.a.L.toInt) ∧ x.cell? ⟨wr.heap.size, 3, none⟩ = some (.string q.t) ∧ x.cell? ⟨wr.heap.size, 4, none⟩ = some (.int .i64 q.k) ∧ x.cell? ⟨wr.heap.size, 5, none⟩ = some (.int .i64 q.u) ∧ Below W2.heap.size W2 x)) := hidP fun x h =>
            ⟨(h.cell DL).trans D0, (h.cell DL).trans D1, (h.cell DL).trans D2, (h.cell xL).trans x0, (h.cell xL).trans x1, (h.cell xL).trans x2, (h.cell xL).trans x3, (h.cell xL).trans x4, (h.cell xL).trans x5, h⟩
          refine wp_region_held_drew (S := (fun x => x.cell? ⟨w.heap.size, 0, none⟩ = some (.slice (some ⟨p, o, none⟩) n c) ∧ x.cell? ⟨w.heap.size, 1, none⟩ = some (.int .i64 T) ∧ x.cell? ⟨w.heap.size, 2, none⟩ = some (.int .i64 N) ∧ x.cell? ⟨wr.heap.size, 0, none⟩ = some (.bool q.a.s) ∧ x.cell? ⟨wr.heap.size, 1, none⟩ = some (.int .i64 q.a.H.toInt) ∧ x.cell? ⟨wr.heap.size, 2, none⟩ = some (.int .i64 q.a.L.toInt) ∧ x.cell? ⟨wr.heap.size, 3, none⟩ = some (.string q.t) ∧ x.cell? ⟨wr.heap.size, 4, none⟩ = some (.int .i64 q.k) ∧ x.cell? ⟨wr.heap.size, 5, none⟩ = some (.int .i64 q.u) ∧ Below W2.heap.size W2 x)) (by kernel_rfl) ?_ (fun hHeld => ?_)
          · try dsimp only
            exact HSx.out _ ((Below.refl _ _).drew)
          refine wpAnyH_take (i := 0) (oi := ⟨some 13, _, _, _, _, _⟩) (v := ?_) rfl (by kernel_rfl) (by kernel_rfl) (by kernel_rfl) (fun _ _ _ h => h) (Or.inl ⟨by rfl, ?_⟩) (by assumption) ?_
          rotate_left
          · intro w hSw
            try dsimp only at hSw
            go_simp
            try with_reducible rfl
          simp only [Act.put, List.setIfInBounds_toArray, List.set_cons_zero, List.set_cons_succ]
          refine wpAnyH_take (i := 1) (oi := ⟨some 14, _, _, _, _, _⟩) (v := ?_) rfl (by kernel_rfl) (by kernel_rfl) (by kernel_rfl) (fun _ _ _ h => h) (Or.inl ⟨by rfl, ?_⟩) (by assumption) ?_
          rotate_left
          · intro w hSw
            try dsimp only at hSw
            go_simp
            try with_reducible rfl
          simp only [Act.put, List.setIfInBounds_toArray, List.set_cons_zero, List.set_cons_succ]
          refine wpAnyH_ready (rs := [2]) (by kernel_rfl) (by simp) ?_
          refine AllReadyH.cons rfl (fun K hK => ?_) AllReadyH.nil
          go_simp
          go_wp2_with (first | (go_at_call 53; refine (HP1.out _).mono ?_; rintro e w2 ⟨rfl, hb2⟩; have b2 := (hHeld.2.2.2.2.2.2.2.2.2).trans (hb2.mono (hHeld.2.2.2.2.2.2.2.2.2).size)))
          refine hK.out _ _ ?_ (fun hHeld => ?_)
          · try dsimp only
            exact HSx.out _ b2
          clear hK K
          refine wpAnyH_take (i := 3) (oi := ⟨some 16, _, _, _, _, _⟩) (v := ?_) rfl (by kernel_rfl) (by kernel_rfl) (by kernel_rfl) (fun _ _ _ h => h) (Or.inl ⟨by rfl, ?_⟩) (by assumption) ?_
          rotate_left
          · intro w hSw
            try dsimp only at hSw
            go_simp
            try with_reducible rfl
          simp only [Act.put, List.setIfInBounds_toArray, List.set_cons_zero, List.set_cons_succ]
          refine wpAnyH_take (i := 4) (oi := ⟨some 17, _, _, _, _, _⟩) (v := ?_) rfl (by kernel_rfl) (by kernel_rfl) (by kernel_rfl) (fun _ _ _ h => h) (Or.inl ⟨by rfl, ?_⟩) (by assumption) ?_
          rotate_left
          · intro w hSw
            try dsimp only at hSw
            go_simp
            try with_reducible rfl
          simp only [Act.put, List.setIfInBounds_toArray, List.set_cons_zero, List.set_cons_succ]
          refine wpAnyH_take (i := 5) (oi := ⟨some 18, _, _, _, _, _⟩) (v := ?_) rfl (by kernel_rfl) (by kernel_rfl) (by kernel_rfl) (fun _ _ _ h => h) (Or.inl ⟨by rfl, ?_⟩) (by assumption) ?_
          rotate_left
          · intro w hSw
            try dsimp only at hSw
            go_simp
            try with_reducible rfl
          simp only [Act.put, List.setIfInBounds_toArray, List.set_cons_zero, List.set_cons_succ]
          refine wpAnyH_take (i := 6) (oi := ⟨some 19, _, _, _, _, _⟩) (v := ?_) rfl (by kernel_rfl) (by kernel_rfl) (by kernel_rfl) (fun _ _ _ h => h) (Or.inl ⟨by rfl, ?_⟩) (by assumption) ?_
          rotate_left
          · intro w hSw
            try dsimp only at hSw
            go_simp
            try with_reducible rfl
          simp only [Act.put, List.setIfInBounds_toArray, List.set_cons_zero, List.set_cons_succ]
          refine wpAnyH_take (i := 7) (oi := ⟨some 20, _, _, _, _, _⟩) (v := ?_) rfl (by kernel_rfl) (by kernel_rfl) (by kernel_rfl) (fun _ _ _ h => h) (Or.inl ⟨by rfl, ?_⟩) (by assumption) ?_
          rotate_left
          · intro w hSw
            try dsimp only at hSw
            go_simp
            try with_reducible rfl
          simp only [Act.put, List.setIfInBounds_toArray, List.set_cons_zero, List.set_cons_succ]
          refine wpAnyH_take (i := 8) (oi := ⟨some 21, _, _, _, _, _⟩) (v := undef) rfl (by kernel_rfl) (by kernel_rfl) (by kernel_rfl) (fun _ _ _ h => h) (Or.inr ⟨by rfl, rfl⟩) (by assumption) ?_
          simp only [Act.put, List.setIfInBounds_toArray, List.set_cons_zero, List.set_cons_succ]
          refine wpAnyH_take (i := 9) (oi := ⟨some 22, _, _, _, _, _⟩) (v := undef) rfl (by kernel_rfl) (by kernel_rfl) (by kernel_rfl) (fun _ _ _ h => h) (Or.inr ⟨by rfl, rfl⟩) (by assumption) ?_
          simp only [Act.put, List.setIfInBounds_toArray, List.set_cons_zero, List.set_cons_succ]
          refine wpAnyH_take (i := 10) (oi := ⟨some 23, _, _, _, _, _⟩) (v := undef) rfl (by kernel_rfl) (by kernel_rfl) (by kernel_rfl) (fun _ _ _ h => h) (Or.inr ⟨by rfl, rfl⟩) (by assumption) ?_
          simp only [Act.put, List.setIfInBounds_toArray, List.set_cons_zero, List.set_cons_succ]
          refine wpAnyH_take (i := 11) (oi := ⟨some 24, _, _, _, _, _⟩) (v := undef) rfl (by kernel_rfl) (by kernel_rfl) (by kernel_rfl) (fun _ _ _ h => h) (Or.inr ⟨by rfl, rfl⟩) (by assumption) ?_
          simp only [Act.put, List.setIfInBounds_toArray, List.set_cons_zero, List.set_cons_succ]
          refine wpAnyH_take (i := 12) (oi := ⟨some 25, _, _, _, _, _⟩) (v := undef) rfl (by kernel_rfl) (by kernel_rfl) (by kernel_rfl) (fun _ _ _ h => h) (Or.inr ⟨by rfl, rfl⟩) (by assumption) ?_
          simp only [Act.put, List.setIfInBounds_toArray, List.set_cons_zero, List.set_cons_succ]
          refine wpAnyH_take (i := 13) (oi := ⟨some 26, _, _, _, _, _⟩) (v := undef) rfl (by kernel_rfl) (by kernel_rfl) (by kernel_rfl) (fun _ _ _ h => h) (Or.inr ⟨by rfl, rfl⟩) (by assumption) ?_
          simp only [Act.put, List.setIfInBounds_toArray, List.set_cons_zero, List.set_cons_succ]
          refine wpAnyH_take (i := 14) (oi := ⟨some 27, _, _, _, _, _⟩) (v := undef) rfl (by kernel_rfl) (by kernel_rfl) (by kernel_rfl) (fun _ _ _ h => h) (Or.inr ⟨by rfl, rfl⟩) (by assumption) ?_
          simp only [Act.put, List.setIfInBounds_toArray, List.set_cons_zero, List.set_cons_succ]
          refine wpAnyH_take (i := 15) (oi := ⟨some 28, _, _, _, _, _⟩) (v := undef) rfl (by kernel_rfl) (by kernel_rfl) (by kernel_rfl) (fun _ _ _ h => h) (Or.inr ⟨by rfl, rfl⟩) (by assumption) ?_
          simp only [Act.put, List.setIfInBounds_toArray, List.set_cons_zero, List.set_cons_succ]
          refine wpAnyH_take (i := 16) (oi := ⟨some 29, _, _, _, _, _⟩) (v := undef) rfl (by kernel_rfl) (by kernel_rfl) (by kernel_rfl) (fun _ _ _ h => h) (Or.inr ⟨by rfl, rfl⟩) (by assumption) ?_
          simp only [Act.put, List.setIfInBounds_toArray, List.set_cons_zero, List.set_cons_succ]
          refine wpAnyH_take (i := 17) (oi := ⟨some 30, _, _, _, _, _⟩) (v := undef) rfl (by kernel_rfl) (by kernel_rfl) (by kernel_rfl) (fun _ _ _ h => h) (Or.inr ⟨by rfl, rfl⟩) (by assumption) ?_
          simp only [Act.put, List.setIfInBounds_toArray, List.set_cons_zero, List.set_cons_succ]
          refine wpAnyH_take (i := 18) (oi := ⟨some 31, _, _, _, _, _⟩) (v := undef) rfl (by kernel_rfl) (by kernel_rfl) (by kernel_rfl) (fun _ _ _ h => h) (Or.inr ⟨by rfl, rfl⟩) (by assumption) ?_
          simp only [Act.put, List.setIfInBounds_toArray, List.set_cons_zero, List.set_cons_succ]
          refine wpAnyH_take (i := 19) (oi := ⟨some 32, _, _, _, _, _⟩) (v := ?_) rfl (by kernel_rfl) (by kernel_rfl) (by kernel_rfl) (fun _ _ _ h => h) (Or.inl ⟨by rfl, ?_⟩) (by assumption) ?_
          rotate_left
          · intro w hSw
            try dsimp only at hSw
            go_simp
            try with_reducible rfl
          simp only [Act.put, List.setIfInBounds_toArray, List.set_cons_zero, List.set_cons_succ]
          refine wpAnyH_take (i := 20) (oi := ⟨some 33, _, _, _, _, _⟩) (v := ?_) rfl (by kernel_rfl) (by kernel_rfl) (by kernel_rfl) (fun _ _ _ h => h) (Or.inl ⟨by rfl, ?_⟩) (by assumption) ?_
          rotate_left
          · intro w hSw
            try dsimp only at hSw
            go_simp
            try with_reducible rfl
          simp only [Act.put, List.setIfInBounds_toArray, List.set_cons_zero, List.set_cons_succ]
          have HE := hidP (hHeld.2.2.2.2.2.2.2.2.2)
          refine wpAnyH_done (by kernel_rfl) ?_ _
          clear hHeld
          go_wp2_with fail
          go_roundw
          case rel => exact ⟨k + 1, by omega, by go_num, by rw [HF.out, HNx.out], (fun r h => by rw [HNx.out] at h; cases h; exact HOk.out), below_box HBel.out HBel.out.size HXB.out HE.out⟩
          case measure => simp [intOf]; omega
        · have g0 : decide ((0 : Int) < (k : Int)) = true := decide_eq_true (by omega)
          have g1 : decide (0 < k) = true := decide_eq_true (by omega)
          obtain ⟨J, hJ⟩ : ∃ J, J = k - 1 := ⟨_, rfl⟩
          have hkJ : k = J + 1 := by omega
          have hJi : (k : Int) - 1 = (J : Int) := by omega
          have hJn : J < n := by omega
          have wJ : IntKind.i64.wrap (J : Int) = (J : Int) := by rw [IntKind.wrap_i64]; omega
          have hJ0 : (0 : Int) ≤ (J : Int) := by omega
          have hJ1 : (J : Int) < (n : Int) := by omega
          obtain ⟨p', o', r, he, hp', hr, c0, c1, c2, c3, c4, c5⟩ := rowLs HR.out J (by rw [← HN.out]; exact hJn)
          simp only [Option.some.injEq, Addr.mk.injEq, and_true] at he
          obtain ⟨rfl, rfl⟩ := he
          have hprv : prvL ls k = some r.a := by rw [hkJ]; exact prvL_next hr
          have hrok : r.a.ok = true := HPr.out _ hprv
          have HPo2 : Hid (leasesF T N none ls = ((true && decide (r.a.key < q.a.key)) && leasesF T N (some q.a) (ls.drop (k + 1)))) := hidP (by rw [HPo.out, hprv]; rfl)
          have HFo := hidP ((cmp_ok r.a.s r.a.H r.a.L q.a.s q.a.H q.a.L hrok HOk.out).2)
          have hge : decide (0 ≤ cmpW (keyN r.a.s r.a.H r.a.L : Int) (keyN q.a.s q.a.H q.a.L : Int)) = !decide (r.a.key < q.a.key) := cmpW_ge _ _
          generalize cmpW (keyN r.a.s r.a.H r.a.L : Int) (keyN q.a.s q.a.H q.a.L : Int) = z at *
          have e0 := (HBel.out.cell hp').trans c0
          have e1 := (HBel.out.cell hp').trans c1
          have e2 := (HBel.out.cell hp').trans c2
          clear c0 c1 c2 c3 c4 c5 hr hprv hrok hJ hkJ hk0 HPo HPr
          cases hfo : decide (r.a.key < q.a.key)
          · rw [hfo] at HPo2 hge
            have hge' : decide (0 ≤ z) = true := hge
            have HF : Hid (leasesF T N none ls = false) := hidP (by rw [HPo2.out]; rfl)
            clear HPo2 hge hfo
            go_wp2_with fail
            obtain ⟨x0, x1, x2, x3, x4, x5⟩ := boxLs (q := q) wr 35
            have xB := alloc_below wr (.cells #[.bool q.a.s, .int .i64 q.a.H.toInt, .int .i64 q.a.L.toInt, .string q.t, .int .i64 q.k, .int .i64 q.u] 35)
            have xL := alloc_lt wr (.cells #[.bool q.a.s, .int .i64 q.a.H.toInt, .int .i64 q.a.L.toInt, .string q.t, .int .i64 q.k, .int .i64 q.u] 35)
            have xS : (wr.alloc (.cells #[.bool q.a.s, .int .i64 q.a.H.toInt, .int .i64 q.a.L.toInt, .string q.t, .int .i64 q.k, .int .i64 q.u] 35)).heap.size = wr.heap.size + 1 := by simp
            generalize wr.alloc (.cells #[.bool q.a.s, .int .i64 q.a.H.toInt, .int .i64 q.a.L.toInt, .string q.t, .int .i64 q.k, .int .i64 q.u] 35) = W2 at *
            have D0 := (xB.cell BL).trans B0
            have D1 := (xB.cell BL).trans B1
            have D2 := (xB.cell BL).trans B2
            have DL : w.heap.size < W2.heap.size := Nat.lt_of_lt_of_le BL xB.size
            have HXB := hidP xB
            clear xS
            have y0 := (xB.cell hpw).trans e0
            have y1 := (xB.cell hpw).trans e1
            have y2 := (xB.cell hpw).trans e2
            have yL : p < W2.heap.size := Nat.lt_of_lt_of_le hpw xB.size
            clear xB
            have HSx : Hid (∀ x, Below W2.heap.size W2 x → (x.cell? ⟨w.heap.size, 0, none⟩ = some (.slice (some ⟨p, o, none⟩) n c) ∧ x.cell? ⟨w.heap.size, 1, none⟩ = some (.int .i64 T) ∧ x.cell? ⟨w.heap.size, 2, none⟩ = some (.int .i64 N) ∧ x.cell? ⟨wr.heap.size, 0, none⟩ = some (.bool q.a.s) ∧ x.cell? ⟨wr.heap.size, 1, none⟩ = some (.int .i64 q.a.H.toInt) ∧ x.cell? ⟨wr.heap.size, 2, none⟩ = some (.int .i64 q.a.L.toInt) ∧ x.cell? ⟨wr.heap.size, 3, none⟩ = some (.string q.t) ∧ x.cell? ⟨wr.heap.size, 4, none⟩ = some (.int .i64 q.k) ∧ x.cell? ⟨wr.heap.size, 5, none⟩ = some (.int .i64 q.u) ∧ x.cell? ⟨p, o + J * 6, none⟩ = some (.bool r.a.s) ∧ x.cell? ⟨p, o + J * 6 + 1, none⟩ = some (.int .i64 r.a.H.toInt) ∧ x.cell? ⟨p, o + J * 6 + 2, none⟩ = some (.int .i64 r.a.L.toInt) ∧ Below W2.heap.size W2 x)) := hidP fun x h =>
              ⟨(h.cell DL).trans D0, (h.cell DL).trans D1, (h.cell DL).trans D2, (h.cell xL).trans x0, (h.cell xL).trans x1, (h.cell xL).trans x2, (h.cell xL).trans x3, (h.cell xL).trans x4, (h.cell xL).trans x5, (h.cell yL).trans y0, (h.cell yL).trans y1, (h.cell yL).trans y2, h⟩
            refine wp_region_held_drew (S := (fun x => x.cell? ⟨w.heap.size, 0, none⟩ = some (.slice (some ⟨p, o, none⟩) n c) ∧ x.cell? ⟨w.heap.size, 1, none⟩ = some (.int .i64 T) ∧ x.cell? ⟨w.heap.size, 2, none⟩ = some (.int .i64 N) ∧ x.cell? ⟨wr.heap.size, 0, none⟩ = some (.bool q.a.s) ∧ x.cell? ⟨wr.heap.size, 1, none⟩ = some (.int .i64 q.a.H.toInt) ∧ x.cell? ⟨wr.heap.size, 2, none⟩ = some (.int .i64 q.a.L.toInt) ∧ x.cell? ⟨wr.heap.size, 3, none⟩ = some (.string q.t) ∧ x.cell? ⟨wr.heap.size, 4, none⟩ = some (.int .i64 q.k) ∧ x.cell? ⟨wr.heap.size, 5, none⟩ = some (.int .i64 q.u) ∧ x.cell? ⟨p, o + J * 6, none⟩ = some (.bool r.a.s) ∧ x.cell? ⟨p, o + J * 6 + 1, none⟩ = some (.int .i64 r.a.H.toInt) ∧ x.cell? ⟨p, o + J * 6 + 2, none⟩ = some (.int .i64 r.a.L.toInt) ∧ Below W2.heap.size W2 x)) (by kernel_rfl) ?_ (fun hHeld => ?_)
            · try dsimp only
              exact HSx.out _ ((Below.refl _ _).drew)
            refine wpAnyH_take (i := 0) (oi := ⟨some 13, _, _, _, _, _⟩) (v := ?_) rfl (by kernel_rfl) (by kernel_rfl) (by kernel_rfl) (fun _ _ _ h => h) (Or.inl ⟨by rfl, ?_⟩) (by assumption) ?_
            rotate_left
            · intro w hSw
              try dsimp only at hSw
              go_simp
              try with_reducible rfl
            simp only [Act.put, List.setIfInBounds_toArray, List.set_cons_zero, List.set_cons_succ]
            refine wpAnyH_take (i := 1) (oi := ⟨some 14, _, _, _, _, _⟩) (v := ?_) rfl (by kernel_rfl) (by kernel_rfl) (by kernel_rfl) (fun _ _ _ h => h) (Or.inl ⟨by rfl, ?_⟩) (by assumption) ?_
            rotate_left
            · intro w hSw
              try dsimp only at hSw
              go_simp
              try with_reducible rfl
            simp only [Act.put, List.setIfInBounds_toArray, List.set_cons_zero, List.set_cons_succ]
            refine wpAnyH_ready (rs := [2]) (by kernel_rfl) (by simp) ?_
            refine AllReadyH.cons rfl (fun K hK => ?_) AllReadyH.nil
            go_simp
            go_wp2_with (first | (go_at_call 53; refine (HP1.out _).mono ?_; rintro e w2 ⟨rfl, hb2⟩; have b2 := (hHeld.2.2.2.2.2.2.2.2.2.2.2.2).trans (hb2.mono (hHeld.2.2.2.2.2.2.2.2.2.2.2.2).size)))
            refine hK.out _ _ ?_ (fun hHeld => ?_)
            · try dsimp only
              exact HSx.out _ b2
            clear hK K
            refine wpAnyH_take (i := 3) (oi := ⟨some 16, _, _, _, _, _⟩) (v := ?_) rfl (by kernel_rfl) (by kernel_rfl) (by kernel_rfl) (fun _ _ _ h => h) (Or.inl ⟨by rfl, ?_⟩) (by assumption) ?_
            rotate_left
            · intro w hSw
              try dsimp only at hSw
              go_simp
              try with_reducible rfl
            simp only [Act.put, List.setIfInBounds_toArray, List.set_cons_zero, List.set_cons_succ]
            refine wpAnyH_take (i := 4) (oi := ⟨some 17, _, _, _, _, _⟩) (v := ?_) rfl (by kernel_rfl) (by kernel_rfl) (by kernel_rfl) (fun _ _ _ h => h) (Or.inl ⟨by rfl, ?_⟩) (by assumption) ?_
            rotate_left
            · intro w hSw
              try dsimp only at hSw
              go_simp
              try with_reducible rfl
            simp only [Act.put, List.setIfInBounds_toArray, List.set_cons_zero, List.set_cons_succ]
            refine wpAnyH_take (i := 5) (oi := ⟨some 18, _, _, _, _, _⟩) (v := ?_) rfl (by kernel_rfl) (by kernel_rfl) (by kernel_rfl) (fun _ _ _ h => h) (Or.inl ⟨by rfl, ?_⟩) (by assumption) ?_
            rotate_left
            · intro w hSw
              try dsimp only at hSw
              go_simp
              try with_reducible rfl
            simp only [Act.put, List.setIfInBounds_toArray, List.set_cons_zero, List.set_cons_succ]
            refine wpAnyH_take (i := 6) (oi := ⟨some 19, _, _, _, _, _⟩) (v := ?_) rfl (by kernel_rfl) (by kernel_rfl) (by kernel_rfl) (fun _ _ _ h => h) (Or.inl ⟨by rfl, ?_⟩) (by assumption) ?_
            rotate_left
            · intro w hSw
              try dsimp only at hSw
              go_simp
              try with_reducible rfl
            simp only [Act.put, List.setIfInBounds_toArray, List.set_cons_zero, List.set_cons_succ]
            refine wpAnyH_take (i := 7) (oi := ⟨some 20, _, _, _, _, _⟩) (v := ?_) rfl (by kernel_rfl) (by kernel_rfl) (by kernel_rfl) (fun _ _ _ h => h) (Or.inl ⟨by rfl, ?_⟩) (by assumption) ?_
            rotate_left
            · intro w hSw
              try dsimp only at hSw
              go_simp
              try with_reducible rfl
            simp only [Act.put, List.setIfInBounds_toArray, List.set_cons_zero, List.set_cons_succ]
            refine wpAnyH_take (i := 8) (oi := ⟨some 21, _, _, _, _, _⟩) (v := ?_) rfl (by kernel_rfl) (by kernel_rfl) (by kernel_rfl) (fun _ _ _ h => h) (Or.inl ⟨by rfl, ?_⟩) (by assumption) ?_
            rotate_left
            · intro w hSw
              try dsimp only at hSw
              go_simp
              try with_reducible rfl
            simp only [Act.put, List.setIfInBounds_toArray, List.set_cons_zero, List.set_cons_succ]
            refine wpAnyH_take (i := 9) (oi := ⟨some 22, _, _, _, _, _⟩) (v := ?_) rfl (by kernel_rfl) (by kernel_rfl) (by kernel_rfl) (fun _ _ _ h => h) (Or.inl ⟨by rfl, ?_⟩) (by assumption) ?_
            rotate_left
            · intro w hSw
              try dsimp only at hSw
              go_simp
              try with_reducible rfl
            simp only [Act.put, List.setIfInBounds_toArray, List.set_cons_zero, List.set_cons_succ]
            refine wpAnyH_take (i := 10) (oi := ⟨some 23, _, _, _, _, _⟩) (v := ?_) rfl (by kernel_rfl) (by kernel_rfl) (by kernel_rfl) (fun _ _ _ h => h) (Or.inl ⟨by rfl, ?_⟩) (by assumption) ?_
            rotate_left
            · intro w hSw
              try dsimp only at hSw
              go_simp
              try with_reducible rfl
            simp only [Act.put, List.setIfInBounds_toArray, List.set_cons_zero, List.set_cons_succ]
            refine wpAnyH_take (i := 11) (oi := ⟨some 24, _, _, _, _, _⟩) (v := ?_) rfl (by kernel_rfl) (by kernel_rfl) (by kernel_rfl) (fun _ _ _ h => h) (Or.inl ⟨by rfl, ?_⟩) (by assumption) ?_
            rotate_left
            · intro w hSw
              try dsimp only at hSw
              go_simp
              try with_reducible rfl
            simp only [Act.put, List.setIfInBounds_toArray, List.set_cons_zero, List.set_cons_succ]
            refine wpAnyH_take (i := 12) (oi := ⟨some 25, _, _, _, _, _⟩) (v := ?_) rfl (by kernel_rfl) (by kernel_rfl) (by kernel_rfl) (fun _ _ _ h => h) (Or.inl ⟨by rfl, ?_⟩) (by assumption) ?_
            rotate_left
            · intro w hSw
              try dsimp only at hSw
              go_simp
              try with_reducible rfl
            simp only [Act.put, List.setIfInBounds_toArray, List.set_cons_zero, List.set_cons_succ]
            refine wpAnyH_take (i := 13) (oi := ⟨some 26, _, _, _, _, _⟩) (v := ?_) rfl (by kernel_rfl) (by kernel_rfl) (by kernel_rfl) (fun _ _ _ h => h) (Or.inl ⟨by rfl, ?_⟩) (by assumption) ?_
            rotate_left
            · intro w hSw
              try dsimp only at hSw
              go_simp
              try with_reducible rfl
            simp only [Act.put, List.setIfInBounds_toArray, List.set_cons_zero, List.set_cons_succ]
            refine wpAnyH_take (i := 14) (oi := ⟨some 27, _, _, _, _, _⟩) (v := ?_) rfl (by kernel_rfl) (by kernel_rfl) (by kernel_rfl) (fun _ _ _ h => h) (Or.inl ⟨by rfl, ?_⟩) (by assumption) ?_
            rotate_left
            · intro w hSw
              try dsimp only at hSw
              go_simp
              try with_reducible rfl
            simp only [Act.put, List.setIfInBounds_toArray, List.set_cons_zero, List.set_cons_succ]
            refine wpAnyH_take (i := 15) (oi := ⟨some 28, _, _, _, _, _⟩) (v := ?_) rfl (by kernel_rfl) (by kernel_rfl) (by kernel_rfl) (fun _ _ _ h => h) (Or.inl ⟨by rfl, ?_⟩) (by assumption) ?_
            rotate_left
            · intro w hSw
              try dsimp only at hSw
              go_simp
              try with_reducible rfl
            simp only [Act.put, List.setIfInBounds_toArray, List.set_cons_zero, List.set_cons_succ]
            refine wpAnyH_take (i := 16) (oi := ⟨some 29, _, _, _, _, _⟩) (v := ?_) rfl (by kernel_rfl) (by kernel_rfl) (by kernel_rfl) (fun _ _ _ h => h) (Or.inl ⟨by rfl, ?_⟩) (by assumption) ?_
            rotate_left
            · intro w hSw
              try dsimp only at hSw
              go_simp
              try with_reducible rfl
            simp only [Act.put, List.setIfInBounds_toArray, List.set_cons_zero, List.set_cons_succ]
            refine wpAnyH_ready (rs := [17]) (by kernel_rfl) (by simp) ?_
            refine AllReadyH.cons rfl (fun K hK => ?_) AllReadyH.nil
            go_simp
            go_wp2_with (first | (go_at_call 54; refine (HFo.out _).mono ?_; rintro e w3 ⟨rfl, hb3⟩; have b3 := (hHeld.2.2.2.2.2.2.2.2.2.2.2.2).trans (hb3.mono (hHeld.2.2.2.2.2.2.2.2.2.2.2.2).size)))
            refine hK.out _ _ ?_ (fun hHeld => ?_)
            · try dsimp only
              exact HSx.out _ b3
            clear hK K
            refine wpAnyH_take (i := 18) (oi := ⟨some 31, _, _, _, _, _⟩) (v := ?_) rfl (by kernel_rfl) (by kernel_rfl) (by kernel_rfl) (fun _ _ _ h => h) (Or.inl ⟨by rfl, ?_⟩) (by assumption) ?_
            rotate_left
            · intro w hSw
              try dsimp only at hSw
              go_simp
              try with_reducible rfl
            simp only [Act.put, List.setIfInBounds_toArray, List.set_cons_zero, List.set_cons_succ]
            refine wpAnyH_take (i := 19) (oi := ⟨some 32, _, _, _, _, _⟩) (v := ?_) rfl (by kernel_rfl) (by kernel_rfl) (by kernel_rfl) (fun _ _ _ h => h) (Or.inl ⟨by rfl, ?_⟩) (by assumption) ?_
            rotate_left
            · intro w hSw
              try dsimp only at hSw
              go_simp
              try with_reducible rfl
            simp only [Act.put, List.setIfInBounds_toArray, List.set_cons_zero, List.set_cons_succ]
            refine wpAnyH_take (i := 20) (oi := ⟨some 33, _, _, _, _, _⟩) (v := ?_) rfl (by kernel_rfl) (by kernel_rfl) (by kernel_rfl) (fun _ _ _ h => h) (Or.inl ⟨by rfl, ?_⟩) (by assumption) ?_
            rotate_left
            · intro w hSw
              try dsimp only at hSw
              go_simp
              try with_reducible rfl
            simp only [Act.put, List.setIfInBounds_toArray, List.set_cons_zero, List.set_cons_succ]
            have HE := hidP (hHeld.2.2.2.2.2.2.2.2.2.2.2.2)
            refine wpAnyH_done (by kernel_rfl) ?_ _
            clear hHeld
            go_wp2_with fail
            go_ret
            exact ⟨ret_b HF.out.symm, HU.out.trans ((below_box HBel.out HBel.out.size HXB.out HE.out).mono HU.out.size)⟩
          · rw [hfo] at HPo2 hge
            have hge' : decide (0 ≤ z) = false := hge
            have HF : Hid (leasesF T N none ls = leasesF T N (some q.a) (ls.drop (k + 1))) := hidP (by rw [HPo2.out]; rfl)
            clear HPo2 hge hfo
            go_wp2_with fail
            obtain ⟨x0, x1, x2, x3, x4, x5⟩ := boxLs (q := q) wr 35
            have xB := alloc_below wr (.cells #[.bool q.a.s, .int .i64 q.a.H.toInt, .int .i64 q.a.L.toInt, .string q.t, .int .i64 q.k, .int .i64 q.u] 35)
            have xL := alloc_lt wr (.cells #[.bool q.a.s, .int .i64 q.a.H.toInt, .int .i64 q.a.L.toInt, .string q.t, .int .i64 q.k, .int .i64 q.u] 35)
            have xS : (wr.alloc (.cells #[.bool q.a.s, .int .i64 q.a.H.toInt, .int .i64 q.a.L.toInt, .string q.t, .int .i64 q.k, .int .i64 q.u] 35)).heap.size = wr.heap.size + 1 := by simp
            generalize wr.alloc (.cells #[.bool q.a.s, .int .i64 q.a.H.toInt, .int .i64 q.a.L.toInt, .string q.t, .int .i64 q.k, .int .i64 q.u] 35) = W2 at *
            have D0 := (xB.cell BL).trans B0
            have D1 := (xB.cell BL).trans B1
            have D2 := (xB.cell BL).trans B2
            have DL : w.heap.size < W2.heap.size := Nat.lt_of_lt_of_le BL xB.size
            have HXB := hidP xB
            clear xS
            have y0 := (xB.cell hpw).trans e0
            have y1 := (xB.cell hpw).trans e1
            have y2 := (xB.cell hpw).trans e2
            have yL : p < W2.heap.size := Nat.lt_of_lt_of_le hpw xB.size
            clear xB
            have HSx : Hid (∀ x, Below W2.heap.size W2 x → (x.cell? ⟨w.heap.size, 0, none⟩ = some (.slice (some ⟨p, o, none⟩) n c) ∧ x.cell? ⟨w.heap.size, 1, none⟩ = some (.int .i64 T) ∧ x.cell? ⟨w.heap.size, 2, none⟩ = some (.int .i64 N) ∧ x.cell? ⟨wr.heap.size, 0, none⟩ = some (.bool q.a.s) ∧ x.cell? ⟨wr.heap.size, 1, none⟩ = some (.int .i64 q.a.H.toInt) ∧ x.cell? ⟨wr.heap.size, 2, none⟩ = some (.int .i64 q.a.L.toInt) ∧ x.cell? ⟨wr.heap.size, 3, none⟩ = some (.string q.t) ∧ x.cell? ⟨wr.heap.size, 4, none⟩ = some (.int .i64 q.k) ∧ x.cell? ⟨wr.heap.size, 5, none⟩ = some (.int .i64 q.u) ∧ x.cell? ⟨p, o + J * 6, none⟩ = some (.bool r.a.s) ∧ x.cell? ⟨p, o + J * 6 + 1, none⟩ = some (.int .i64 r.a.H.toInt) ∧ x.cell? ⟨p, o + J * 6 + 2, none⟩ = some (.int .i64 r.a.L.toInt) ∧ Below W2.heap.size W2 x)) := hidP fun x h =>
              ⟨(h.cell DL).trans D0, (h.cell DL).trans D1, (h.cell DL).trans D2, (h.cell xL).trans x0, (h.cell xL).trans x1, (h.cell xL).trans x2, (h.cell xL).trans x3, (h.cell xL).trans x4, (h.cell xL).trans x5, (h.cell yL).trans y0, (h.cell yL).trans y1, (h.cell yL).trans y2, h⟩
            refine wp_region_held_drew (S := (fun x => x.cell? ⟨w.heap.size, 0, none⟩ = some (.slice (some ⟨p, o, none⟩) n c) ∧ x.cell? ⟨w.heap.size, 1, none⟩ = some (.int .i64 T) ∧ x.cell? ⟨w.heap.size, 2, none⟩ = some (.int .i64 N) ∧ x.cell? ⟨wr.heap.size, 0, none⟩ = some (.bool q.a.s) ∧ x.cell? ⟨wr.heap.size, 1, none⟩ = some (.int .i64 q.a.H.toInt) ∧ x.cell? ⟨wr.heap.size, 2, none⟩ = some (.int .i64 q.a.L.toInt) ∧ x.cell? ⟨wr.heap.size, 3, none⟩ = some (.string q.t) ∧ x.cell? ⟨wr.heap.size, 4, none⟩ = some (.int .i64 q.k) ∧ x.cell? ⟨wr.heap.size, 5, none⟩ = some (.int .i64 q.u) ∧ x.cell? ⟨p, o + J * 6, none⟩ = some (.bool r.a.s) ∧ x.cell? ⟨p, o + J * 6 + 1, none⟩ = some (.int .i64 r.a.H.toInt) ∧ x.cell? ⟨p, o + J * 6 + 2, none⟩ = some (.int .i64 r.a.L.toInt) ∧ Below W2.heap.size W2 x)) (by kernel_rfl) ?_ (fun hHeld => ?_)
            · try dsimp only
              exact HSx.out _ ((Below.refl _ _).drew)
            refine wpAnyH_take (i := 0) (oi := ⟨some 13, _, _, _, _, _⟩) (v := ?_) rfl (by kernel_rfl) (by kernel_rfl) (by kernel_rfl) (fun _ _ _ h => h) (Or.inl ⟨by rfl, ?_⟩) (by assumption) ?_
            rotate_left
            · intro w hSw
              try dsimp only at hSw
              go_simp
              try with_reducible rfl
            simp only [Act.put, List.setIfInBounds_toArray, List.set_cons_zero, List.set_cons_succ]
            refine wpAnyH_take (i := 1) (oi := ⟨some 14, _, _, _, _, _⟩) (v := ?_) rfl (by kernel_rfl) (by kernel_rfl) (by kernel_rfl) (fun _ _ _ h => h) (Or.inl ⟨by rfl, ?_⟩) (by assumption) ?_
            rotate_left
            · intro w hSw
              try dsimp only at hSw
              go_simp
              try with_reducible rfl
            simp only [Act.put, List.setIfInBounds_toArray, List.set_cons_zero, List.set_cons_succ]
            refine wpAnyH_ready (rs := [2]) (by kernel_rfl) (by simp) ?_
            refine AllReadyH.cons rfl (fun K hK => ?_) AllReadyH.nil
            go_simp
            go_wp2_with (first | (go_at_call 53; refine (HP1.out _).mono ?_; rintro e w2 ⟨rfl, hb2⟩; have b2 := (hHeld.2.2.2.2.2.2.2.2.2.2.2.2).trans (hb2.mono (hHeld.2.2.2.2.2.2.2.2.2.2.2.2).size)))
            refine hK.out _ _ ?_ (fun hHeld => ?_)
            · try dsimp only
              exact HSx.out _ b2
            clear hK K
            refine wpAnyH_take (i := 3) (oi := ⟨some 16, _, _, _, _, _⟩) (v := ?_) rfl (by kernel_rfl) (by kernel_rfl) (by kernel_rfl) (fun _ _ _ h => h) (Or.inl ⟨by rfl, ?_⟩) (by assumption) ?_
            rotate_left
            · intro w hSw
              try dsimp only at hSw
              go_simp
              try with_reducible rfl
            simp only [Act.put, List.setIfInBounds_toArray, List.set_cons_zero, List.set_cons_succ]
            refine wpAnyH_take (i := 4) (oi := ⟨some 17, _, _, _, _, _⟩) (v := ?_) rfl (by kernel_rfl) (by kernel_rfl) (by kernel_rfl) (fun _ _ _ h => h) (Or.inl ⟨by rfl, ?_⟩) (by assumption) ?_
            rotate_left
            · intro w hSw
              try dsimp only at hSw
              go_simp
              try with_reducible rfl
            simp only [Act.put, List.setIfInBounds_toArray, List.set_cons_zero, List.set_cons_succ]
            refine wpAnyH_take (i := 5) (oi := ⟨some 18, _, _, _, _, _⟩) (v := ?_) rfl (by kernel_rfl) (by kernel_rfl) (by kernel_rfl) (fun _ _ _ h => h) (Or.inl ⟨by rfl, ?_⟩) (by assumption) ?_
            rotate_left
            · intro w hSw
              try dsimp only at hSw
              go_simp
              try with_reducible rfl
            simp only [Act.put, List.setIfInBounds_toArray, List.set_cons_zero, List.set_cons_succ]
            refine wpAnyH_take (i := 6) (oi := ⟨some 19, _, _, _, _, _⟩) (v := ?_) rfl (by kernel_rfl) (by kernel_rfl) (by kernel_rfl) (fun _ _ _ h => h) (Or.inl ⟨by rfl, ?_⟩) (by assumption) ?_
            rotate_left
            · intro w hSw
              try dsimp only at hSw
              go_simp
              try with_reducible rfl
            simp only [Act.put, List.setIfInBounds_toArray, List.set_cons_zero, List.set_cons_succ]
            refine wpAnyH_take (i := 7) (oi := ⟨some 20, _, _, _, _, _⟩) (v := ?_) rfl (by kernel_rfl) (by kernel_rfl) (by kernel_rfl) (fun _ _ _ h => h) (Or.inl ⟨by rfl, ?_⟩) (by assumption) ?_
            rotate_left
            · intro w hSw
              try dsimp only at hSw
              go_simp
              try with_reducible rfl
            simp only [Act.put, List.setIfInBounds_toArray, List.set_cons_zero, List.set_cons_succ]
            refine wpAnyH_take (i := 8) (oi := ⟨some 21, _, _, _, _, _⟩) (v := ?_) rfl (by kernel_rfl) (by kernel_rfl) (by kernel_rfl) (fun _ _ _ h => h) (Or.inl ⟨by rfl, ?_⟩) (by assumption) ?_
            rotate_left
            · intro w hSw
              try dsimp only at hSw
              go_simp
              try with_reducible rfl
            simp only [Act.put, List.setIfInBounds_toArray, List.set_cons_zero, List.set_cons_succ]
            refine wpAnyH_take (i := 9) (oi := ⟨some 22, _, _, _, _, _⟩) (v := ?_) rfl (by kernel_rfl) (by kernel_rfl) (by kernel_rfl) (fun _ _ _ h => h) (Or.inl ⟨by rfl, ?_⟩) (by assumption) ?_
            rotate_left
            · intro w hSw
              try dsimp only at hSw
              go_simp
              try with_reducible rfl
            simp only [Act.put, List.setIfInBounds_toArray, List.set_cons_zero, List.set_cons_succ]
            refine wpAnyH_take (i := 10) (oi := ⟨some 23, _, _, _, _, _⟩) (v := ?_) rfl (by kernel_rfl) (by kernel_rfl) (by kernel_rfl) (fun _ _ _ h => h) (Or.inl ⟨by rfl, ?_⟩) (by assumption) ?_
            rotate_left
            · intro w hSw
              try dsimp only at hSw
              go_simp
              try with_reducible rfl
            simp only [Act.put, List.setIfInBounds_toArray, List.set_cons_zero, List.set_cons_succ]
            refine wpAnyH_take (i := 11) (oi := ⟨some 24, _, _, _, _, _⟩) (v := ?_) rfl (by kernel_rfl) (by kernel_rfl) (by kernel_rfl) (fun _ _ _ h => h) (Or.inl ⟨by rfl, ?_⟩) (by assumption) ?_
            rotate_left
            · intro w hSw
              try dsimp only at hSw
              go_simp
              try with_reducible rfl
            simp only [Act.put, List.setIfInBounds_toArray, List.set_cons_zero, List.set_cons_succ]
            refine wpAnyH_take (i := 12) (oi := ⟨some 25, _, _, _, _, _⟩) (v := ?_) rfl (by kernel_rfl) (by kernel_rfl) (by kernel_rfl) (fun _ _ _ h => h) (Or.inl ⟨by rfl, ?_⟩) (by assumption) ?_
            rotate_left
            · intro w hSw
              try dsimp only at hSw
              go_simp
              try with_reducible rfl
            simp only [Act.put, List.setIfInBounds_toArray, List.set_cons_zero, List.set_cons_succ]
            refine wpAnyH_take (i := 13) (oi := ⟨some 26, _, _, _, _, _⟩) (v := ?_) rfl (by kernel_rfl) (by kernel_rfl) (by kernel_rfl) (fun _ _ _ h => h) (Or.inl ⟨by rfl, ?_⟩) (by assumption) ?_
            rotate_left
            · intro w hSw
              try dsimp only at hSw
              go_simp
              try with_reducible rfl
            simp only [Act.put, List.setIfInBounds_toArray, List.set_cons_zero, List.set_cons_succ]
            refine wpAnyH_take (i := 14) (oi := ⟨some 27, _, _, _, _, _⟩) (v := ?_) rfl (by kernel_rfl) (by kernel_rfl) (by kernel_rfl) (fun _ _ _ h => h) (Or.inl ⟨by rfl, ?_⟩) (by assumption) ?_
            rotate_left
            · intro w hSw
              try dsimp only at hSw
              go_simp
              try with_reducible rfl
            simp only [Act.put, List.setIfInBounds_toArray, List.set_cons_zero, List.set_cons_succ]
            refine wpAnyH_take (i := 15) (oi := ⟨some 28, _, _, _, _, _⟩) (v := ?_) rfl (by kernel_rfl) (by kernel_rfl) (by kernel_rfl) (fun _ _ _ h => h) (Or.inl ⟨by rfl, ?_⟩) (by assumption) ?_
            rotate_left
            · intro w hSw
              try dsimp only at hSw
              go_simp
              try with_reducible rfl
            simp only [Act.put, List.setIfInBounds_toArray, List.set_cons_zero, List.set_cons_succ]
            refine wpAnyH_take (i := 16) (oi := ⟨some 29, _, _, _, _, _⟩) (v := ?_) rfl (by kernel_rfl) (by kernel_rfl) (by kernel_rfl) (fun _ _ _ h => h) (Or.inl ⟨by rfl, ?_⟩) (by assumption) ?_
            rotate_left
            · intro w hSw
              try dsimp only at hSw
              go_simp
              try with_reducible rfl
            simp only [Act.put, List.setIfInBounds_toArray, List.set_cons_zero, List.set_cons_succ]
            refine wpAnyH_ready (rs := [17]) (by kernel_rfl) (by simp) ?_
            refine AllReadyH.cons rfl (fun K hK => ?_) AllReadyH.nil
            go_simp
            go_wp2_with (first | (go_at_call 54; refine (HFo.out _).mono ?_; rintro e w3 ⟨rfl, hb3⟩; have b3 := (hHeld.2.2.2.2.2.2.2.2.2.2.2.2).trans (hb3.mono (hHeld.2.2.2.2.2.2.2.2.2.2.2.2).size)))
            refine hK.out _ _ ?_ (fun hHeld => ?_)
            · try dsimp only
              exact HSx.out _ b3
            clear hK K
            refine wpAnyH_take (i := 18) (oi := ⟨some 31, _, _, _, _, _⟩) (v := ?_) rfl (by kernel_rfl) (by kernel_rfl) (by kernel_rfl) (fun _ _ _ h => h) (Or.inl ⟨by rfl, ?_⟩) (by assumption) ?_
            rotate_left
            · intro w hSw
              try dsimp only at hSw
              go_simp
              try with_reducible rfl
            simp only [Act.put, List.setIfInBounds_toArray, List.set_cons_zero, List.set_cons_succ]
            refine wpAnyH_take (i := 19) (oi := ⟨some 32, _, _, _, _, _⟩) (v := ?_) rfl (by kernel_rfl) (by kernel_rfl) (by kernel_rfl) (fun _ _ _ h => h) (Or.inl ⟨by rfl, ?_⟩) (by assumption) ?_
            rotate_left
            · intro w hSw
              try dsimp only at hSw
              go_simp
              try with_reducible rfl
            simp only [Act.put, List.setIfInBounds_toArray, List.set_cons_zero, List.set_cons_succ]
            refine wpAnyH_take (i := 20) (oi := ⟨some 33, _, _, _, _, _⟩) (v := ?_) rfl (by kernel_rfl) (by kernel_rfl) (by kernel_rfl) (fun _ _ _ h => h) (Or.inl ⟨by rfl, ?_⟩) (by assumption) ?_
            rotate_left
            · intro w hSw
              try dsimp only at hSw
              go_simp
              try with_reducible rfl
            simp only [Act.put, List.setIfInBounds_toArray, List.set_cons_zero, List.set_cons_succ]
            have HE := hidP (hHeld.2.2.2.2.2.2.2.2.2.2.2.2)
            refine wpAnyH_done (by kernel_rfl) ?_ _
            clear hHeld
            go_wp2_with fail
            go_roundw
            case rel => exact ⟨k + 1, by omega, by go_num, by rw [HF.out, HNx.out], (fun r h => by rw [HNx.out] at h; cases h; exact HOk.out), below_box HBel.out HBel.out.size HXB.out HE.out⟩
            case measure => simp [intOf]; omega
    · have HF : Hid (leasesF T N none ls = true) := by
        rw [List.drop_of_length_le (by have := HN.out; omega)] at hpo
        exact hidP hpo
      have HBel := hidP hbel
      clear hbel hpo hpr
      go_wp2_with fail
      go_ret
      exact ⟨ret_b HF.out.symm, HU.out.trans (HBel.out.mono HU.out.size)⟩

end Go.Proofs.YtddnofonodgneaaGreatDoor
