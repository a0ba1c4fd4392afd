/-
  The program's FirstAddr: the used addresses of the block are taken away as prefixes, then the first that is free.
-/
import Derived.Test.YtamocbkamjnonaaQDef
namespace Go.Proofs.Ytamocbkamjnonaa
open Go.RowKit

set_option maxRecDepth 10000 in
set_option maxHeartbeats 4000000 in
theorem iFA (p : Pf) (a : Option Addr) (n cap : Nat) (us : List Ad) (hn : n = us.length) (w : World) (hB : RowA w a us) (hl : n ≤ 300) (q : Pf) (ok : Bool) (m : Nat) (hm : m = (takA p us).length)
    (hF : ∀ (wx : World) (a' : Option Addr) (c' : Nat), Row wx a' (takA p us) → Calls Try.prog 20 #[.agg #[.bool p.s, .int .i64 p.H.toInt, .int .i64 p.L.toInt, .int .i64 p.b], .slice a' m c', .int .i64 (wd p.s)] wx fun e w' => e = .returned (.tuple #[.agg #[.bool q.s, .int .i64 q.H.toInt, .int .i64 q.L.toInt, .int .i64 q.b], .bool ok]) ∧ Below wx.heap.size wx w') :
    Calls Try.prog 27 #[.agg #[.bool p.s, .int .i64 p.H.toInt, .int .i64 p.L.toInt, .int .i64 p.b], .slice a n cap] w fun e w' => e = .returned (.tuple #[.agg #[.bool q.s, .int .i64 q.H.toInt, .int .i64 q.L.toInt], .bool ok]) ∧ Below w.heap.size w w' := by
  have HB := hidP hB
  have HN := hidP hn
  have HM := hidP hm
  have HF := hidP hF
  have HH : Hid (∀ (u : Ad) (wx : World), Calls Try.prog 49 #[.agg #[.bool p.s, .int .i64 p.H.toInt, .int .i64 p.L.toInt, .int .i64 p.b], .agg #[.bool u.s, .int .i64 u.H.toInt, .int .i64 u.L.toInt]] wx fun e w' => e = .returned (.bool (hadP p u)) ∧ Below wx.heap.size wx w') := hidP fun u wx => iHasAddr_any p.s p.H p.L p.b u.s u.H u.L wx
  have hl2 : decide (300 < (n : Int)) = false := decide_eq_false (by omega)
  have hml : m ≤ 300 := by
    rw [hm]; unfold takA
    rw [List.length_map]
    exact Nat.le_trans (List.length_filter_le _ _) (by omega)
  clear hB hn hF hm
  go_enter Try.func27, Try.ntmps27
  go_wp2_with fail
  obtain ⟨os, hos⟩ : ∃ os : List Obj, os = [.cells #[.bool p.s, .int .i64 p.H.toInt, .int .i64 p.L.toInt, .int .i64 p.b] 37, .cells #[.bool false, .int .i64 0, .int .i64 0] 35] := ⟨_, rfl⟩
  obtain ⟨W, hW⟩ : ∃ W, W = allocs w os := ⟨_, rfl⟩
  have hWe : (w.alloc (.cells #[.bool p.s, .int .i64 p.H.toInt, .int .i64 p.L.toInt, .int .i64 p.b] 37)).alloc (.cells #[.bool false, .int .i64 0, .int .i64 0] 35) = W := by rw [hW, hos]; rfl
  have hb1 : Below w.heap.size w W := by rw [hW]; exact allocs_below os w
  have hsz : W.heap.size = w.heap.size + 2 := by rw [hW, allocs_size, hos]; rfl
  have h0 : W.heap[w.heap.size]? = some (.cells #[.bool p.s, .int .i64 p.H.toInt, .int .i64 p.L.toInt, .int .i64 p.b] 37) := by rw [hW]; exact allocs_at os w 0 _ (by rw [hos]; rfl)
  have h1 : W.heap[w.heap.size + 1]? = some (.cells #[.bool false, .int .i64 0, .int .i64 0] 35) := by rw [hW]; exact allocs_at os w 1 _ (by rw [hos]; rfl)
  rw [hWe]
  have HB1 := hidP hb1
  have H0 := hidP h0
  have H1 := hidP h1
  have HSz := hidP hsz
  clear hW hWe hos hb1 h0 h1 hsz
  go_loopw [6, 17] (fun t6 t17 wr => ∃ (i : Nat) (a6 : Option Addr) (m6 c6 : Nat), i ≤ n ∧ t17 = .int .i64 i ∧ t6 = .slice a6 m6 c6 ∧ m6 = ((us.take i).filter (hadP p)).length ∧ OwnR 37 wr (w.heap.size + 2) (.slice a6 m6 c6) (((us.take i).filter (hadP p)).map Ad.pf) ∧ Below (w.heap.size + 2) W wr) (fun _ t17 _ => n - (intOf t17).toNat)
  case atStart => exact ⟨0, none, 0, 0, Nat.zero_le _, rfl, rfl, by simp, own_none _ _ _, Below.refl _ W⟩
  case round =>
    obtain ⟨i, a6, m6, c6, hi, rfl, rfl, hm6, hown, hbel⟩ := hrel
    have HBel := hidP hbel
    have HOw := hidP hown
    have HM6 := hidP hm6
    have hzr : w.heap.size + 2 ≤ wr.heap.size := by have := hbel.size; rw [HSz.out] at this; exact this
    have j0 := (hbel.block w.heap.size (by omega)).trans H0.out
    have J1 := hidP ((hbel.block (w.heap.size + 1) (by omega)).trans H1.out)
    have J0 := hidP j0
    obtain ⟨⟨d0, d1, d2, d3⟩, _⟩ := of4 j0
    have lz0 := lt_heap j0
    have hm9 : m6 ≤ 300 := by rw [hm6]; exact Nat.le_trans (List.length_filter_le _ _) (by rw [List.length_take]; omega)
    clear hown hbel hm6 j0
    by_cases hlt : i < n
    · obtain ⟨pp, o, u, rfl, hp, hu, e0, e1, e2⟩ := HB.out i (by rw [← HN.out]; exact hlt)
      have hbw := HB1.out.trans (HBel.out.mono (show w.heap.size ≤ w.heap.size + 2 by omega))
      have x0 := (hbw.cell (p := ⟨pp, o + i * 3, none⟩) hp).trans e0
      have x1 := (hbw.cell (p := ⟨pp, o + i * 3 + 1, none⟩) hp).trans e1
      have x2 := (hbw.cell (p := ⟨pp, o + i * 3 + 2, none⟩) hp).trans e2
      have lzp : pp < wr.heap.size := Nat.lt_of_lt_of_le hp hbw.size
      have HS := hidP (had_snoc p us i u hu)
      have HBx := hidP (boxA3 wr 35 u)
      have HHu := hidP (HH.out u)
      have HWu := hidP (width_any u.s u.H.toInt u.L.toInt)
      have HNb : Hid ((Value.slice a6 m6 c6).ownBlock ≠ some wr.heap.size) := hidP fun e => by have := (HOw.out.lt _ e).2; omega
      clear e0 e1 e2 hu hbw
      cases hhd : hadP p u
      · rw [hhd] at HHu HS
        rw [if_neg (by simp), List.append_nil] at HS
        go_wp2_with fail
        refine (HHu.out _).mono ?_
        rintro e w3 ⟨rfl, hb3⟩
        have hr3 : Below wr.heap.size wr w3 := ((Below.refl _ wr).alloc (Nat.le_refl _) _).trans (hb3.mono (by simp))
        have HO3 := hidP (HOw.out.later hr3)
        have HB3 := hidP (HBel.out.trans (hr3.mono hzr))
        clear hb3 hr3
        go_wp2_with fail
        go_roundw
        case rel => exact ⟨i + 1, a6, m6, c6, by omega, by go_num, rfl, by rw [HS.out]; exact HM6.out, by rw [HS.out]; exact HO3.out, HB3.out⟩
        case measure => simp [intOf]; omega
      · rw [hhd] at HHu HS
        rw [if_pos rfl] at HS
        go_wp2_with fail
        refine (HHu.out _).mono ?_
        rintro e w3 ⟨rfl, hb3⟩
        have c0 := (hb3.cell (p := ⟨wr.heap.size, 0, none⟩) (show wr.heap.size < _ by simp)).trans HBx.out.1
        have c1 := (hb3.cell (p := ⟨wr.heap.size, 1, none⟩) (show wr.heap.size < _ by simp)).trans HBx.out.2.1
        have c2 := (hb3.cell (p := ⟨wr.heap.size, 2, none⟩) (show wr.heap.size < _ by simp)).trans HBx.out.2.2
        have hr3 : Below wr.heap.size wr w3 := ((Below.refl _ wr).alloc (Nat.le_refl _) _).trans (hb3.mono (by simp))
        have hz3 := hb3.size
        rw [heap_size_alloc'] at hz3
        have lz3 : wr.heap.size < w3.heap.size := by omega
        have HO3 := hidP (HOw.out.later hr3)
        have HB3 := hidP (HBel.out.trans (hr3.mono hzr))
        clear hb3 hr3 x0 x1 x2 d0 d1 d2 d3
        go_wp2_with fail
        refine wp_region_held_drew (S := (fun Z => Z.cell? ⟨wr.heap.size, 0, none⟩ = some (.bool u.s) ∧ Z.cell? ⟨wr.heap.size, 1, none⟩ = some (.int .i64 u.H.toInt) ∧ Z.cell? ⟨wr.heap.size, 2, none⟩ = some (.int .i64 u.L.toInt))) (by kernel_rfl) ?_ (fun hHeld => ?_)
        · exact ⟨c0, c1, c2⟩
        refine wpAnyH_take (i := 0) (oi := ⟨some 24, _, _, _, _, _⟩) (v := ?_) rfl (by kernel_rfl) (by kernel_rfl) (by kernel_rfl) (fun _ _ _ h => h) (Or.inl ⟨by rfl, ?_⟩) (by assumption) ?_
        rotate_left
        · intro w hSw
          try dsimp only at hSw
          go_simp
          try with_reducible rfl
        simp only [Act.put, List.setIfInBounds_toArray, List.set_cons_zero, List.set_cons_succ]
        refine wpAnyH_take (i := 1) (oi := ⟨some 25, _, _, _, _, _⟩) (v := ?_) rfl (by kernel_rfl) (by kernel_rfl) (by kernel_rfl) (fun _ _ _ h => h) (Or.inl ⟨by rfl, ?_⟩) (by assumption) ?_
        rotate_left
        · intro w hSw
          try dsimp only at hSw
          go_simp
          try with_reducible rfl
        simp only [Act.put, List.setIfInBounds_toArray, List.set_cons_zero, List.set_cons_succ]
        refine wpAnyH_take (i := 2) (oi := ⟨some 26, _, _, _, _, _⟩) (v := ?_) rfl (by kernel_rfl) (by kernel_rfl) (by kernel_rfl) (fun _ _ _ h => h) (Or.inl ⟨by rfl, ?_⟩) (by assumption) ?_
        rotate_left
        · intro w hSw
          try dsimp only at hSw
          go_simp
          try with_reducible rfl
        simp only [Act.put, List.setIfInBounds_toArray, List.set_cons_zero, List.set_cons_succ]
        refine wpAnyH_ready (rs := [3]) (by kernel_rfl) (by simp) ?_
        refine AllReadyH.cons rfl (fun K hK => ?_) AllReadyH.nil
        go_simp
        go_wp2_with (go_at_call 50; refine (HWu.out _).mono ?_; rintro e w4 ⟨rfl, hb4⟩)
        have b4 : Below w3.heap.size w3 w4 := (Below.refl _ w3).drew.trans hb4
        refine hK.out _ _ ?_ (fun hHeld => ?_)
        · exact ⟨(b4.cell lz3).trans c0, (b4.cell lz3).trans c1, (b4.cell lz3).trans c2⟩
        clear hK K
        refine wpAnyH_take (i := 4) (oi := ⟨some 28, _, _, _, _, _⟩) (v := ?_) rfl (by kernel_rfl) (by kernel_rfl) (by kernel_rfl) (fun _ _ _ h => h) (Or.inl ⟨by rfl, ?_⟩) (by assumption) ?_
        rotate_left
        · intro w hSw
          try dsimp only at hSw
          go_simp
          try with_reducible rfl
        simp only [Act.put, List.setIfInBounds_toArray, List.set_cons_zero, List.set_cons_succ]
        refine wpAnyH_ready (rs := [5]) (by kernel_rfl) (by simp) ?_
        refine AllReadyH.cons rfl (fun K hK => ?_) AllReadyH.nil
        go_simp
        have b5 : Below w3.heap.size w3 (w4.alloc (.cells #[.bool u.s, .int .i64 u.H.toInt, .int .i64 u.L.toInt, .int .i64 (wd u.s)] 37)) := b4.alloc b4.size _
        refine hK.out _ _ ?_ (fun hHeld => ?_)
        · exact ⟨(b5.cell lz3).trans c0, (b5.cell lz3).trans c1, (b5.cell lz3).trans c2⟩
        clear hK K
        have ho5 := (HO3.out.later b4).alloc (.cells #[.bool u.s, .int .i64 u.H.toInt, .int .i64 u.L.toInt, .int .i64 (wd u.s)] 37)
        have hs5 := heap_size_alloc' w4 (.cells #[.bool u.s, .int .i64 u.H.toInt, .int .i64 u.L.toInt, .int .i64 (wd u.s)] 37)
        have hz5 := b4.size
        refine wpAnyH_ready (rs := [6]) (by kernel_rfl) (by simp) ?_
        refine AllReadyH.cons rfl (fun K hK => ?_) AllReadyH.nil
        refine step_appR Try.fourP _ rfl (.tmp 24) (.tmp 29) 24 rfl (w.heap.size + 2) a6 m6 c6 1 (((us.take i).filter (hadP p)).map Ad.pf) [u.pf] (.slice (some ⟨w4.heap.size, 0, none⟩) 1 1) rfl (by rw [List.length_map]; exact HM6.out) rfl ho5 rfl (src_row Try.fourP 1 1 rfl (row_one w4 37 u.pf) (by simp)) (by omega) (by omega) ?_
        intro a7 c7 w7 ho7 hg7 ht7
        refine hK.out _ _ ?_ (fun hHeld => ?_)
        · have e : ∀ q, w7.cell? ⟨wr.heap.size, q, none⟩ = (w4.alloc (.cells #[.bool u.s, .int .i64 u.H.toInt, .int .i64 u.L.toInt, .int .i64 (wd u.s)] 37)).cell? ⟨wr.heap.size, q, none⟩ := fun q => World.cell?_of_block (hg7.block wr.heap.size (by omega) (fun e => HNb.out e.symm))
          exact ⟨(e 0).trans ((b5.cell lz3).trans c0), (e 1).trans ((b5.cell lz3).trans c1), (e 2).trans ((b5.cell lz3).trans c2)⟩
        clear hK K
        refine wpAnyH_take (i := 7) (oi := ⟨some 6, _, _, _, _, _⟩) (v := ?_) rfl (by kernel_rfl) (by kernel_rfl) (by kernel_rfl) (fun _ _ _ h => h) (Or.inl ⟨by rfl, ?_⟩) (by assumption) ?_
        rotate_left
        · intro w hSw
          try dsimp only at hSw
          go_simp
          try with_reducible rfl
        simp only [Act.put, List.setIfInBounds_toArray]
        refine wpAnyH_done (by kernel_rfl) ?_ _
        have HB7 := hidP (below_appR ((HB3.out.trans (b4.mono (by omega))).alloc (by have := b4.size; omega) (.cells #[.bool u.s, .int .i64 u.H.toInt, .int .i64 u.L.toInt, .int .i64 (wd u.s)] 37)) ho5 (by omega) hg7)
        have HO7 := hidP ho7
        clear ho7 hg7 ht7 ho5 b4 b5 hb4 hs5 hz5 hHeld
        go_wp2_with fail
        go_roundw
        case rel => exact ⟨i + 1, a7, m6 + 1, c7, by omega, by go_num, rfl, by rw [HS.out, List.length_append, ← HM6.out]; rfl, by rw [HS.out, List.map_append]; exact HO7.out, HB7.out⟩
        case measure => simp [intOf]; omega
    · have hin : i = n := by omega
      subst hin
      have eT : us.take i = us := by rw [HN.out, List.take_length]
      rw [eT] at HM6 HOw
      have em : m6 = m := by rw [HM6.out, HM.out]; unfold takA; rw [List.length_map]
      subst em
      obtain ⟨⟨z0, z1, z2⟩, f0, f1, f2⟩ := of3 J1.out
      have lz1 := lt_heap J1.out
      have HRw : Hid (Row wr a6 (takA p us)) := hidP HOw.out.row
      have HWp := hidP (width_any p.s p.H.toInt p.L.toInt)
      have HBw := hidP (HB1.out.trans (HBel.out.mono (show w.heap.size ≤ w.heap.size + 2 by omega)))
      clear eT
      go_wp2_with fail
      go_region_with (first | (go_at_call 50; refine (HWp.out _).mono ?_; rintro e w4 ⟨rfl, hb4⟩; have hz4 := hb4.size; (try simp at hz4); (have g4a : w.heap.size < w4.heap.size := by omega); (have g4b : w.heap.size + 1 < w4.heap.size := by omega); (first | (have g4c : wr.heap.size < w4.heap.size := by omega) | skip); (first | (refine olds_k (wr.heap.size + 1) hb4 ?_ ?_; (focus (first | omega | (simp; omega) | (simp; done)))) | (refine olds_k (wr.heap.size) hb4 ?_ ?_; (focus (first | omega | (simp; omega) | (simp; done))))); intro hc4 hf4) | (go_at_call 20; refine (HF.out _ a6 c6 (HRw.out.later (by repeat (first | with_reducible exact Below.refl _ _ | (with_reducible refine Below.drew ?_) | (with_reducible refine Below.alloc ?_ ?_ _; rotate_left; (focus (first | omega | (simp; omega) | (simp; done)))) | (with_reducible refine Below.setCell ?_ ?_ _; rotate_left; (focus (first | omega | (simp; omega) | (simp; done)))) | (with_reducible refine Below.trans ?_ (hb5.mono ?_); rotate_left; (focus (first | omega | (simp; omega) | (simp; done)))) | (with_reducible refine Below.trans ?_ (hb4.mono ?_); rotate_left; (focus (first | omega | (simp; omega) | (simp; done)))))))).mono ?_; rintro e w5 ⟨rfl, hb5⟩; have hz5 := hb5.size; (try simp at hz5); (have g5a : w.heap.size < w5.heap.size := by omega); (have g5b : w.heap.size + 1 < w5.heap.size := by omega); (first | (have g5c : wr.heap.size < w5.heap.size := by omega) | skip); (first | (refine olds_k (wr.heap.size + 1) hb5 ?_ ?_; (focus (first | omega | (simp; omega) | (simp; done)))) | (refine olds_k (wr.heap.size) hb5 ?_ ?_; (focus (first | omega | (simp; omega) | (simp; done))))); intro hc5 hf5; (first | (refine olds_k (w4.heap.size + 1) hb5 ?_ ?_; (focus (first | omega | (simp; omega) | (simp; done))); intro hc6 hf6; (have g6 : w4.heap.size < w5.heap.size := by omega)) | skip)))
      all_goals go_wp2_with fail
      all_goals
        have hB5 : Below wr.heap.size wr w5 := by repeat (first | with_reducible exact Below.refl _ _ | (with_reducible refine Below.drew ?_) | (with_reducible refine Below.alloc ?_ ?_ _; rotate_left; (focus (first | omega | (simp; omega) | (simp; done)))) | (with_reducible refine Below.trans ?_ (hb5.mono ?_); rotate_left; (focus (first | omega | (simp; omega) | (simp; done)))) | (with_reducible refine Below.trans ?_ (hb4.mono ?_); rotate_left; (focus (first | omega | (simp; omega) | (simp; done)))))
        have h5 := (hB5.block _ lz1).trans J1.out
        have hBw5 := HBw.out.trans (hB5.mono HBw.out.size)
        have hzw5 := hBw5.size
        have hzr5 := hB5.size
        first
          | (obtain ⟨g0, g1, g2⟩ := faC (.cells #[.bool q.s, .int .i64 q.H.toInt, .int .i64 q.L.toInt, .int .i64 q.b] 37) (.bool q.s) (.int .i64 q.H.toInt) (.int .i64 q.L.toInt) h5
             refine bodyPost_ret (v := .tuple #[.agg #[.bool q.s, .int .i64 q.H.toInt, .int .i64 q.L.toInt], .bool ok]) ?_ rfl ⟨rfl, ?_⟩
             (focus (simp [results, Try.results27, go_sem, g0, g1, g2]; done))
             repeat (first | with_reducible exact hBw5 | (with_reducible refine Below.setCell ?_ ?_ _; rotate_left; (focus (first | omega | (simp; omega) | (simp; done)))) | (with_reducible refine Below.alloc ?_ ?_ _; rotate_left; (focus (first | omega | (simp; omega) | (simp [World.setCell]; omega))))))
          | (obtain ⟨g0, g1, g2⟩ := faK (K := wr.heap.size) (show w.heap.size + 1 ≠ wr.heap.size by omega) (.bool q.s) (.int .i64 q.H.toInt) (.int .i64 q.L.toInt) (.int .i64 q.b) (.bool q.s) (.int .i64 q.H.toInt) (.int .i64 q.L.toInt) h5
             refine bodyPost_ret (v := .tuple #[.agg #[.bool q.s, .int .i64 q.H.toInt, .int .i64 q.L.toInt], .bool ok]) ?_ rfl ⟨rfl, ?_⟩
             (focus (simp [results, Try.results27, go_sem, g0, g1, g2]; done))
             repeat (first | with_reducible exact hBw5 | (with_reducible refine Below.setCell ?_ ?_ _; rotate_left; (focus (first | omega | (simp; omega) | (simp; done)))) | (with_reducible refine Below.alloc ?_ ?_ _; rotate_left; (focus (first | omega | (simp; omega) | (simp [World.setCell]; omega))))))
          | (obtain ⟨g0, g1, g2⟩ := faK (K := w4.heap.size) (show w.heap.size + 1 ≠ w4.heap.size by omega) (.bool q.s) (.int .i64 q.H.toInt) (.int .i64 q.L.toInt) (.int .i64 q.b) (.bool q.s) (.int .i64 q.H.toInt) (.int .i64 q.L.toInt) h5
             refine bodyPost_ret (v := .tuple #[.agg #[.bool q.s, .int .i64 q.H.toInt, .int .i64 q.L.toInt], .bool ok]) ?_ rfl ⟨rfl, ?_⟩
             (focus (simp [results, Try.results27, go_sem, g0, g1, g2]; done))
             repeat (first | with_reducible exact hBw5 | (with_reducible refine Below.setCell ?_ ?_ _; rotate_left; (focus (first | omega | (simp; omega) | (simp; done)))) | (with_reducible refine Below.alloc ?_ ?_ _; rotate_left; (focus (first | omega | (simp; omega) | (simp [World.setCell]; omega))))))
          | (trace_state; fail)

end Go.Proofs.Ytamocbkamjnonaa
