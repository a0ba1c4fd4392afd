/-
  For every code the law FnFirstAddr answers yes: the first free address of the drawn ones is the block's, not used, and none ahead of it is free; no condition.
-/
import Derived.Test.YtkpbidlcnjppkaaZF2
import Derived.ProofKit
import Derived.OpenShut
import Derived.Lib.SmallJoins
import Derived.Carry
import Derived.Deep.Slices
import Derived.ChangeMaps5
import Derived.ChangeSame
namespace Go.Proofs.Ytkpbidlcnjppkaa
open Go.RowKit

set_option maxRecDepth 10000 in
set_option maxHeartbeats 4000000 in
theorem iFA (p : Pf) (a : Option Addr) (n cap : Nat) (us : List Ad) (hn : n = us.length) (w : World) (hB : RowA w a us) (hl : n ≤ 300) (q : Pf) (ok : Bool) (m : Nat) (hm : m = (takA p us).length)
    (hF : ∀ (wx : World) (a' : Option Addr) (c' : Nat), Row wx a' (takA p us) → Calls Try.prog 17 #[.agg #[.bool p.s, .int .i64 p.H.toInt, .int .i64 p.L.toInt, .int .i64 p.b], .slice a' m c', .int .i64 (wd p.s)] wx fun e w' => e = .returned (.tuple #[.agg #[.bool q.s, .int .i64 q.H.toInt, .int .i64 q.L.toInt, .int .i64 q.b], .bool ok]) ∧ Below wx.heap.size wx w') :
    Calls Try.prog 6 #[.agg #[.bool p.s, .int .i64 p.H.toInt, .int .i64 p.L.toInt, .int .i64 p.b], .slice a n cap] w fun e w' => e = .returned (.tuple #[.agg #[.bool q.s, .int .i64 q.H.toInt, .int .i64 q.L.toInt], .bool ok]) ∧ Below w.heap.size w w' := by
  have HB := hidP hB
  have HN := hidP hn
  have HM := hidP hm
  have HF := hidP hF
  have HH : Hid (∀ (u : Ad) (wx : World), Calls Try.prog 15 #[.agg #[.bool p.s, .int .i64 p.H.toInt, .int .i64 p.L.toInt, .int .i64 p.b], .agg #[.bool u.s, .int .i64 u.H.toInt, .int .i64 u.L.toInt]] wx fun e w' => e = .returned (.bool (hadP p u)) ∧ Below wx.heap.size wx w') := hidP fun u wx => iHasAddr_any p.s p.H p.L p.b u.s u.H u.L wx
  have hl2 : decide (300 < (n : Int)) = false := decide_eq_false (by omega)
  have hml : m ≤ 300 := by
    rw [hm]; unfold takA
    rw [List.length_map]
    exact Nat.le_trans (List.length_filter_le _ _) (by omega)
  clear hB hn hF hm
  go_enter Try.func6, Try.ntmps6
  go_wp2_with fail
  obtain ⟨os, hos⟩ : ∃ os : List Obj, os = [.cells #[.bool p.s, .int .i64 p.H.toInt, .int .i64 p.L.toInt, .int .i64 p.b] 27, .cells #[.bool false, .int .i64 0, .int .i64 0] 25] := ⟨_, rfl⟩
  obtain ⟨W, hW⟩ : ∃ W, W = allocs w os := ⟨_, rfl⟩
  have hWe : (w.alloc (.cells #[.bool p.s, .int .i64 p.H.toInt, .int .i64 p.L.toInt, .int .i64 p.b] 27)).alloc (.cells #[.bool false, .int .i64 0, .int .i64 0] 25) = W := by rw [hW, hos]; rfl
  have hb1 : Below w.heap.size w W := by rw [hW]; exact allocs_below os w
  have hsz : W.heap.size = w.heap.size + 2 := by rw [hW, allocs_size, hos]; rfl
  have h0 : W.heap[w.heap.size]? = some (.cells #[.bool p.s, .int .i64 p.H.toInt, .int .i64 p.L.toInt, .int .i64 p.b] 27) := by rw [hW]; exact allocs_at os w 0 _ (by rw [hos]; rfl)
  have h1 : W.heap[w.heap.size + 1]? = some (.cells #[.bool false, .int .i64 0, .int .i64 0] 25) := by rw [hW]; exact allocs_at os w 1 _ (by rw [hos]; rfl)
  rw [hWe]
  have HB1 := hidP hb1
  have H0 := hidP h0
  have H1 := hidP h1
  have HSz := hidP hsz
  clear hW hWe hos hb1 h0 h1 hsz
  go_loopw [6, 17] (fun t6 t17 wr => ∃ (i : Nat) (a6 : Option Addr) (m6 c6 : Nat), i ≤ n ∧ t17 = .int .i64 i ∧ t6 = .slice a6 m6 c6 ∧ m6 = ((us.take i).filter (hadP p)).length ∧ OwnR 27 wr (w.heap.size + 2) (.slice a6 m6 c6) (((us.take i).filter (hadP p)).map Ad.pf) ∧ Below (w.heap.size + 2) W wr) (fun _ t17 _ => n - (intOf t17).toNat)
  case atStart => exact ⟨0, none, 0, 0, Nat.zero_le _, rfl, rfl, by simp, own_none _ _ _, Below.refl _ W⟩
  case round =>
    obtain ⟨i, a6, m6, c6, hi, rfl, rfl, hm6, hown, hbel⟩ := hrel
    have HBel := hidP hbel
    have HOw := hidP hown
    have HM6 := hidP hm6
    have hzr : w.heap.size + 2 ≤ wr.heap.size := by have := hbel.size; rw [HSz.out] at this; exact this
    have j0 := (hbel.block w.heap.size (by omega)).trans H0.out
    have J1 := hidP ((hbel.block (w.heap.size + 1) (by omega)).trans H1.out)
    have J0 := hidP j0
    obtain ⟨⟨d0, d1, d2, d3⟩, _⟩ := of4 j0
    have lz0 := lt_heap j0
    have hm9 : m6 ≤ 300 := by rw [hm6]; exact Nat.le_trans (List.length_filter_le _ _) (by rw [List.length_take]; omega)
    clear hown hbel hm6 j0
    by_cases hlt : i < n
    · obtain ⟨pp, o, u, rfl, hp, hu, e0, e1, e2⟩ := HB.out i (by rw [← HN.out]; exact hlt)
      have hbw := HB1.out.trans (HBel.out.mono (show w.heap.size ≤ w.heap.size + 2 by omega))
      have x0 := (hbw.cell (p := ⟨pp, o + i * 3, none⟩) hp).trans e0
      have x1 := (hbw.cell (p := ⟨pp, o + i * 3 + 1, none⟩) hp).trans e1
      have x2 := (hbw.cell (p := ⟨pp, o + i * 3 + 2, none⟩) hp).trans e2
      have lzp : pp < wr.heap.size := Nat.lt_of_lt_of_le hp hbw.size
      have HS := hidP (had_snoc p us i u hu)
      have HBx := hidP (boxA3 wr 25 u)
      have HHu := hidP (HH.out u)
      have HWu := hidP (width_any u.s u.H.toInt u.L.toInt)
      have HNb : Hid ((Value.slice a6 m6 c6).ownBlock ≠ some wr.heap.size) := hidP fun e => by have := (HOw.out.lt _ e).2; omega
      clear e0 e1 e2 hu hbw
      cases hhd : hadP p u
      · rw [hhd] at HHu HS
        rw [if_neg (by simp), List.append_nil] at HS
        go_wp2_with fail
        refine (HHu.out _).mono ?_
        rintro e w3 ⟨rfl, hb3⟩
        have hr3 : Below wr.heap.size wr w3 := ((Below.refl _ wr).alloc (Nat.le_refl _) _).trans (hb3.mono (by simp))
        have HO3 := hidP (HOw.out.later hr3)
        have HB3 := hidP (HBel.out.trans (hr3.mono hzr))
        clear hb3 hr3
        go_wp2_with fail
        go_roundw
        case rel => exact ⟨i + 1, a6, m6, c6, by omega, by go_num, rfl, by rw [HS.out]; exact HM6.out, by rw [HS.out]; exact HO3.out, HB3.out⟩
        case measure => simp [intOf]; omega
      · rw [hhd] at HHu HS
        rw [if_pos rfl] at HS
        go_wp2_with fail
        refine (HHu.out _).mono ?_
        rintro e w3 ⟨rfl, hb3⟩
        have c0 := (hb3.cell (p := ⟨wr.heap.size, 0, none⟩) (show wr.heap.size < _ by simp)).trans HBx.out.1
        have c1 := (hb3.cell (p := ⟨wr.heap.size, 1, none⟩) (show wr.heap.size < _ by simp)).trans HBx.out.2.1
        have c2 := (hb3.cell (p := ⟨wr.heap.size, 2, none⟩) (show wr.heap.size < _ by simp)).trans HBx.out.2.2
        have hr3 : Below wr.heap.size wr w3 := ((Below.refl _ wr).alloc (Nat.le_refl _) _).trans (hb3.mono (by simp))
        have hz3 := hb3.size
        rw [heap_size_alloc'] at hz3
        have lz3 : wr.heap.size < w3.heap.size := by omega
        have HO3 := hidP (HOw.out.later hr3)
        have HB3 := hidP (HBel.out.trans (hr3.mono hzr))
        clear hb3 hr3 x0 x1 x2 d0 d1 d2 d3
        go_wp2_with fail
        refine wp_region_held_drew (S := (fun Z => Z.cell? ⟨wr.heap.size, 0, none⟩ = some (.bool u.s) ∧ Z.cell? ⟨wr.heap.size, 1, none⟩ = some (.int .i64 u.H.toInt) ∧ Z.cell? ⟨wr.heap.size, 2, none⟩ = some (.int .i64 u.L.toInt))) (by kernel_rfl) ?_ (fun hHeld => ?_)
        · exact ⟨c0, c1, c2⟩
        refine tk 0 24 rfl ?_; simp only [pa]
        refine tk 1 25 rfl ?_; simp only [pa]
        refine tk 2 26 rfl ?_; simp only [pa]
        refine wpAnyH_ready (rs := [3]) (by kernel_rfl) (by simp) ?_
        refine AllReadyH.cons rfl (fun K hK => ?_) AllReadyH.nil
        go_simp
        go_wp2_with (go_at_call 16; refine (HWu.out _).mono ?_; rintro e w4 ⟨rfl, hb4⟩)
        have b4 : Below w3.heap.size w3 w4 := (Below.refl _ w3).drew.trans hb4
        refine hK.out _ _ ?_ (fun hHeld => ?_)
        · exact ⟨(b4.cell lz3).trans c0, (b4.cell lz3).trans c1, (b4.cell lz3).trans c2⟩
        clear hK K
        refine tk 4 28 rfl ?_; simp only [pa]
        refine wpAnyH_ready (rs := [5]) (by kernel_rfl) (by simp) ?_
        refine AllReadyH.cons rfl (fun K hK => ?_) AllReadyH.nil
        go_simp
        have b5 : Below w3.heap.size w3 (w4.alloc (.cells #[.bool u.s, .int .i64 u.H.toInt, .int .i64 u.L.toInt, .int .i64 (wd u.s)] 27)) := b4.alloc b4.size _
        refine hK.out _ _ ?_ (fun hHeld => ?_)
        · exact ⟨(b5.cell lz3).trans c0, (b5.cell lz3).trans c1, (b5.cell lz3).trans c2⟩
        clear hK K
        have ho5 := (HO3.out.later b4).alloc (.cells #[.bool u.s, .int .i64 u.H.toInt, .int .i64 u.L.toInt, .int .i64 (wd u.s)] 27)
        have hs5 := heap_size_alloc' w4 (.cells #[.bool u.s, .int .i64 u.H.toInt, .int .i64 u.L.toInt, .int .i64 (wd u.s)] 27)
        have hz5 := b4.size
        refine wpAnyH_ready (rs := [6]) (by kernel_rfl) (by simp) ?_
        refine AllReadyH.cons rfl (fun K hK => ?_) AllReadyH.nil
        refine step_appR Try.fourP _ rfl (.tmp 24) (.tmp 29) 42 rfl (w.heap.size + 2) a6 m6 c6 1 (((us.take i).filter (hadP p)).map Ad.pf) [u.pf] (.slice (some ⟨w4.heap.size, 0, none⟩) 1 1) rfl (by rw [List.length_map]; exact HM6.out) rfl ho5 rfl (src_row Try.fourP 1 1 rfl (row_one w4 27 u.pf) (by simp)) (by omega) (by omega) ?_
        intro a7 c7 w7 ho7 hg7 ht7
        refine hK.out _ _ ?_ (fun hHeld => ?_)
        · have e : ∀ q, w7.cell? ⟨wr.heap.size, q, none⟩ = (w4.alloc (.cells #[.bool u.s, .int .i64 u.H.toInt, .int .i64 u.L.toInt, .int .i64 (wd u.s)] 27)).cell? ⟨wr.heap.size, q, none⟩ := fun q => World.cell?_of_block (hg7.block wr.heap.size (by omega) (fun e => HNb.out e.symm))
          exact ⟨(e 0).trans ((b5.cell lz3).trans c0), (e 1).trans ((b5.cell lz3).trans c1), (e 2).trans ((b5.cell lz3).trans c2)⟩
        clear hK K
        refine tkA 7 6 (v := ?_) rfl (by kernel_rfl) (fun _ _ _ h => h) (by rfl) ?_ (by assumption) ?_; rotate_left; · (intro w hSw; (try dsimp only at hSw); go_simp; try with_reducible rfl)
        simp only [Act.put, List.setIfInBounds_toArray]
        refine wpAnyH_done (by kernel_rfl) ?_ _
        have HB7 := hidP (below_appR ((HB3.out.trans (b4.mono (by omega))).alloc (by have := b4.size; omega) (.cells #[.bool u.s, .int .i64 u.H.toInt, .int .i64 u.L.toInt, .int .i64 (wd u.s)] 27)) ho5 (by omega) hg7)
        have HO7 := hidP ho7
        clear ho7 hg7 ht7 ho5 b4 b5 hb4 hs5 hz5 hHeld
        go_wp2_with fail
        go_roundw
        case rel => exact ⟨i + 1, a7, m6 + 1, c7, by omega, by go_num, rfl, by rw [HS.out, List.length_append, ← HM6.out]; rfl, by rw [HS.out, List.map_append]; exact HO7.out, HB7.out⟩
        case measure => simp [intOf]; omega
    · have hin : i = n := by omega
      subst hin
      have eT : us.take i = us := by rw [HN.out, List.take_length]
      rw [eT] at HM6 HOw
      have em : m6 = m := by rw [HM6.out, HM.out]; unfold takA; rw [List.length_map]
      subst em
      obtain ⟨⟨z0, z1, z2⟩, f0, f1, f2⟩ := of3 J1.out
      have lz1 := lt_heap J1.out
      have HRw : Hid (Row wr a6 (takA p us)) := hidP HOw.out.row
      have HWp := hidP (width_any p.s p.H.toInt p.L.toInt)
      have HBw := hidP (HB1.out.trans (HBel.out.mono (show w.heap.size ≤ w.heap.size + 2 by omega)))
      clear eT
      go_wp2_with fail
      go_region_with (first | (go_at_call 16; refine (HWp.out _).mono ?_; rintro e w4 ⟨rfl, hb4⟩; have hz4 := hb4.size; (try simp at hz4); (have g4a : w.heap.size < w4.heap.size := by omega); (have g4b : w.heap.size + 1 < w4.heap.size := by omega); (first | (have g4c : wr.heap.size < w4.heap.size := by omega) | skip); (first | (refine olds_k (wr.heap.size + 1) hb4 ?_ ?_; (focus (first | omega | (simp; omega) | (simp; done)))) | (refine olds_k (wr.heap.size) hb4 ?_ ?_; (focus (first | omega | (simp; omega) | (simp; done))))); intro hc4 hf4) | (go_at_call 17; refine (HF.out _ a6 c6 (HRw.out.later (by repeat (first | with_reducible exact Below.refl _ _ | (with_reducible refine Below.drew ?_) | (with_reducible refine Below.alloc ?_ ?_ _; rotate_left; (focus (first | omega | (simp; omega) | (simp; done)))) | (with_reducible refine Below.setCell ?_ ?_ _; rotate_left; (focus (first | omega | (simp; omega) | (simp; done)))) | (with_reducible refine Below.trans ?_ (hb5.mono ?_); rotate_left; (focus (first | omega | (simp; omega) | (simp; done)))) | (with_reducible refine Below.trans ?_ (hb4.mono ?_); rotate_left; (focus (first | omega | (simp; omega) | (simp; done)))))))).mono ?_; rintro e w5 ⟨rfl, hb5⟩; have hz5 := hb5.size; (try simp at hz5); (have g5a : w.heap.size < w5.heap.size := by omega); (have g5b : w.heap.size + 1 < w5.heap.size := by omega); (first | (have g5c : wr.heap.size < w5.heap.size := by omega) | skip); (first | (refine olds_k (wr.heap.size + 1) hb5 ?_ ?_; (focus (first | omega | (simp; omega) | (simp; done)))) | (refine olds_k (wr.heap.size) hb5 ?_ ?_; (focus (first | omega | (simp; omega) | (simp; done))))); intro hc5 hf5; (first | (refine olds_k (w4.heap.size + 1) hb5 ?_ ?_; (focus (first | omega | (simp; omega) | (simp; done))); intro hc6 hf6; (have g6 : w4.heap.size < w5.heap.size := by omega)) | skip)))
      all_goals go_wp2_with fail
      all_goals
        have hB5 : Below wr.heap.size wr w5 := by repeat (first | with_reducible exact Below.refl _ _ | (with_reducible refine Below.drew ?_) | (with_reducible refine Below.alloc ?_ ?_ _; rotate_left; (focus (first | omega | (simp; omega) | (simp; done)))) | (with_reducible refine Below.trans ?_ (hb5.mono ?_); rotate_left; (focus (first | omega | (simp; omega) | (simp; done)))) | (with_reducible refine Below.trans ?_ (hb4.mono ?_); rotate_left; (focus (first | omega | (simp; omega) | (simp; done)))))
        have h5 := (hB5.block _ lz1).trans J1.out
        have hBw5 := HBw.out.trans (hB5.mono HBw.out.size)
        have hzw5 := hBw5.size
        have hzr5 := hB5.size
        first
          | (obtain ⟨g0, g1, g2⟩ := faC (.cells #[.bool q.s, .int .i64 q.H.toInt, .int .i64 q.L.toInt, .int .i64 q.b] 27) (.bool q.s) (.int .i64 q.H.toInt) (.int .i64 q.L.toInt) h5
             refine bodyPost_ret (v := .tuple #[.agg #[.bool q.s, .int .i64 q.H.toInt, .int .i64 q.L.toInt], .bool ok]) ?_ rfl ⟨rfl, ?_⟩
             (focus (simp [results, Try.results6, go_sem, g0, g1, g2]; done))
             repeat (first | with_reducible exact hBw5 | (with_reducible refine Below.setCell ?_ ?_ _; rotate_left; (focus (first | omega | (simp; omega) | (simp; done)))) | (with_reducible refine Below.alloc ?_ ?_ _; rotate_left; (focus (first | omega | (simp; omega) | (simp [World.setCell]; omega))))))
          | (obtain ⟨g0, g1, g2⟩ := faK (K := wr.heap.size) (show w.heap.size + 1 ≠ wr.heap.size by omega) (.bool q.s) (.int .i64 q.H.toInt) (.int .i64 q.L.toInt) (.int .i64 q.b) (.bool q.s) (.int .i64 q.H.toInt) (.int .i64 q.L.toInt) h5
             refine bodyPost_ret (v := .tuple #[.agg #[.bool q.s, .int .i64 q.H.toInt, .int .i64 q.L.toInt], .bool ok]) ?_ rfl ⟨rfl, ?_⟩
             (focus (simp [results, Try.results6, go_sem, g0, g1, g2]; done))
             repeat (first | with_reducible exact hBw5 | (with_reducible refine Below.setCell ?_ ?_ _; rotate_left; (focus (first | omega | (simp; omega) | (simp; done)))) | (with_reducible refine Below.alloc ?_ ?_ _; rotate_left; (focus (first | omega | (simp; omega) | (simp [World.setCell]; omega))))))
          | (obtain ⟨g0, g1, g2⟩ := faK (K := w4.heap.size) (show w.heap.size + 1 ≠ w4.heap.size by omega) (.bool q.s) (.int .i64 q.H.toInt) (.int .i64 q.L.toInt) (.int .i64 q.b) (.bool q.s) (.int .i64 q.H.toInt) (.int .i64 q.L.toInt) h5
             refine bodyPost_ret (v := .tuple #[.agg #[.bool q.s, .int .i64 q.H.toInt, .int .i64 q.L.toInt], .bool ok]) ?_ rfl ⟨rfl, ?_⟩
             (focus (simp [results, Try.results6, go_sem, g0, g1, g2]; done))
             repeat (first | with_reducible exact hBw5 | (with_reducible refine Below.setCell ?_ ?_ _; rotate_left; (focus (first | omega | (simp; omega) | (simp; done)))) | (with_reducible refine Below.alloc ?_ ?_ _; rotate_left; (focus (first | omega | (simp; omega) | (simp [World.setCell]; omega))))))
          | (trace_state; fail)

end Go.Proofs.Ytkpbidlcnjppkaa
namespace Go.Proofs.Ytkpbidlcnjppkaa
open Go.RowKit

theorem left_subA : ∀ (k : Nat) (x : Sp) (l : List Sp), x.ok → x.n = k → ∀ t ∈ leftM k x l, t.s = x.s ∧ t.n ≤ k
  | 0, x, l, hx, hn, t, ht => by
      unfold leftM at ht
      split at ht
      · cases ht
      · rw [List.mem_singleton] at ht; subst ht; exact ⟨rfl, by omega⟩
  | k + 1, x, l, hx, hn, t, ht => by
      unfold leftM at ht
      split at ht
      · cases ht
      · split at ht
        · rw [List.mem_singleton] at ht; subst ht; exact ⟨rfl, by omega⟩
        · rcases List.mem_append.1 ht with h | h
          · have := left_subA k (lowS x k) _ (low_ok hx hn) rfl t h
            exact ⟨this.1, by omega⟩
          · have := left_subA k (uppS x k) _ (upp_ok hx hn) rfl t h
            exact ⟨this.1, by omega⟩

set_option maxHeartbeats 1000000 in
theorem sFA_no (p : Pf) (a : Option Addr) (n cap : Nat) (w : World) (h9 : n ≤ 9000000000) (hno : p.pok = false ∨ 300 < n) :
    Calls Try.prog 7 #[.agg #[.bool p.s, .int .i64 p.H.toInt, .int .i64 p.L.toInt, .int .i64 p.b], .slice a n cap] w fun e w' => e = .returned (.tuple #[.agg #[.bool false, .int .i64 0, .int .i64 0], .bool false]) ∧ Below w.heap.size w w' := by
  have hp := sPrefixOk_any p.s p.H p.L p.b
  have HP := hidP hp
  clear hp
  obtain ⟨os, hos⟩ : ∃ os : List Obj, os = [.cells #[.bool p.s, .int .i64 p.H.toInt, .int .i64 p.L.toInt, .int .i64 p.b] 27, .cells #[.bool false, .int .i64 0, .int .i64 0] 25] := ⟨_, rfl⟩
  obtain ⟨W, hW⟩ : ∃ W, W = allocs w os := ⟨_, rfl⟩
  have hWe : (w.alloc (.cells #[.bool p.s, .int .i64 p.H.toInt, .int .i64 p.L.toInt, .int .i64 p.b] 27)).alloc (.cells #[.bool false, .int .i64 0, .int .i64 0] 25) = W := by rw [hW, hos]; rfl
  have hb1 : Below w.heap.size w W := by rw [hW]; exact allocs_below os w
  have h1 : W.heap[w.heap.size + 1]? = some (.cells #[.bool false, .int .i64 0, .int .i64 0] 25) := by rw [hW]; exact allocs_at os w 1 _ (by rw [hos]; rfl)
  have HB1 := hidP hb1
  have H1 := hidP h1
  have HWe := hidP hWe
  clear hW hWe hos hb1 h1
  cases hpk : pokB p.s p.H p.L p.b
  · rw [hpk] at HP
    clear hno
    go_enter Try.func7, Try.ntmps7
    go_wp2_with fail
    rw [HWe.out]
    refine (HP.out W).mono ?_
    rintro e w2 ⟨rfl, hb2⟩
    have k1 := (hb2.block _ (lt_heap H1.out)).trans H1.out
    obtain ⟨⟨v0, v1, v2⟩, f0, f1, f2⟩ := of3 k1
    have lz := lt_heap k1
    have HZ := hidP (of3 (set3 (a' := .bool false) (b' := .int .i64 0) (c' := .int .i64 0) k1)).1
    have HB2 := hidP (HB1.out.trans (hb2.mono HB1.out.size))
    clear hb2 k1
    go_wp2_with fail
    obtain ⟨g0, g1, g2⟩ := HZ.out
    refine bodyPost_ret (v := .tuple #[.agg #[.bool false, .int .i64 0, .int .i64 0], .bool false]) (by simp [results, Try.results7, go_sem, g0, g1, g2]) rfl ⟨rfl, ?_⟩
    exact ((HB2.out.setCell (p := ⟨w.heap.size + 1, 0, none⟩) (Nat.le_succ _) _).setCell (p := ⟨w.heap.size + 1, 1, none⟩) (Nat.le_succ _) _).setCell (p := ⟨w.heap.size + 1, 2, none⟩) (Nat.le_succ _) _
  · rw [hpk] at HP
    have hl : 300 < n := by
      rcases hno with h | h
      · have h1 : pokB p.s p.H p.L p.b = false := h
        rw [hpk] at h1; cases h1
      · exact h
    have hl2 : decide (300 < (n : Int)) = true := decide_eq_true (by omega)
    clear hno
    go_enter Try.func7, Try.ntmps7
    go_wp2_with fail
    rw [HWe.out]
    refine (HP.out W).mono ?_
    rintro e w2 ⟨rfl, hb2⟩
    have k1 := (hb2.block _ (lt_heap H1.out)).trans H1.out
    obtain ⟨⟨v0, v1, v2⟩, f0, f1, f2⟩ := of3 k1
    have lz := lt_heap k1
    have HZ := hidP (of3 (set3 (a' := .bool false) (b' := .int .i64 0) (c' := .int .i64 0) k1)).1
    have HB2 := hidP (HB1.out.trans (hb2.mono HB1.out.size))
    clear hb2 k1
    go_wp2_with fail
    obtain ⟨g0, g1, g2⟩ := HZ.out
    refine bodyPost_ret (v := .tuple #[.agg #[.bool false, .int .i64 0, .int .i64 0], .bool false]) (by simp [results, Try.results7, go_sem, g0, g1, g2]) rfl ⟨rfl, ?_⟩
    exact ((HB2.out.setCell (p := ⟨w.heap.size + 1, 0, none⟩) (Nat.le_succ _) _).setCell (p := ⟨w.heap.size + 1, 1, none⟩) (Nat.le_succ _) _).setCell (p := ⟨w.heap.size + 1, 2, none⟩) (Nat.le_succ _) _

set_option maxHeartbeats 1000000 in
theorem iFA_big (p : Pf) (a : Option Addr) (n cap : Nat) (w : World) (h9 : n ≤ 9000000000) (hl : 300 < n) :
    Calls Try.prog 6 #[.agg #[.bool p.s, .int .i64 p.H.toInt, .int .i64 p.L.toInt, .int .i64 p.b], .slice a n cap] w fun e w' => e = .returned (.tuple #[.agg #[.bool false, .int .i64 0, .int .i64 0], .bool false]) ∧ Below w.heap.size w w' := by
  have hl2 : decide (300 < (n : Int)) = true := decide_eq_true (by omega)
  go_enter Try.func6, Try.ntmps6
  go_wp2_with fail
  refine bodyPost_ret (v := .tuple #[.agg #[.bool false, .int .i64 0, .int .i64 0], .bool false]) (by simp [results, Try.results6, go_sem]) rfl ⟨rfl, ?_⟩
  exact ((Below.refl _ w).alloc (Nat.le_refl _) _).alloc (by simp) _

def Ad.sp (u : Ad) : Sp := ⟨u.s, u.H, u.L, 0⟩
theorem takA_sp (p : Pf) (us : List Ad) : takA p us = ((us.filter (hadP p)).map Ad.sp).map Sp.pre := by
  unfold takA
  rw [List.map_map]
  refine List.map_congr_left fun u _ => ?_
  show (⟨u.s, u.H, u.L, (wd u.s : Int)⟩ : Pf) = ⟨u.s, u.H, u.L, (wd u.s : Int) - ((0 : Nat) : Int)⟩
  congr 1
theorem had_ok {p : Pf} {u : Ad} (h : hadP p u = true) : u.sp.ok := by
  unfold hadP hadB at h
  rw [Bool.and_eq_true, Bool.and_eq_true] at h
  exact ⟨h.2.1, Nat.zero_le _, c0H _, c0L _⟩

/-- An address that is the span's by its number is right. -/
theorem num_ok {x : Sp} (hx : x.ok) (u : Ad) (hs : u.s = x.s) (m : Nat) (hm : m < 2 ^ x.n) (he : u.adr = x.adr + m) : okB u.s u.H.toInt u.L.toInt = true := by
  have h1 := adr_end hx
  cases hus : u.s
  · have hw : wd x.s = 32 := by rw [← hs, hus]; rfl
    rw [hw] at h1
    have e := adrN_eq u.H u.L
    have e2 : u.adr = adrN u.H u.L := rfl
    have hL := u.L.isLt
    have h0 : u.H.toNat = 0 := by omega
    have h00 : u.H = 0 := BitVec.eq_of_toNat_eq h0
    rw [h00]
    exact okB_low u.L (by omega)
  · exact okB_t _ _

theorem left_room (x : Sp) (hx : x.ok) (T : List Sp) : partL x.pre.s (wd x.s : Int) (leftM x.n x T) = leftM x.n x T := by
  unfold partL
  have e : x.pre.s = x.s := rfl
  rw [e, if_neg (by omega), List.filter_eq_self]
  intro t ht
  have := left_subA x.n x T hx rfl t ht
  unfold roomP
  rw [this.1]
  exact decide_eq_true (by omega)

/-- What the program's FirstFree finds of single addresses is what FirstAddr is to answer. -/
theorem left_ans (x : Sp) (hx : x.ok) (us : List Ad) : ∃ q ok, frsV (wd x.s : Int) (leftM x.n x ((us.filter (hadP x.pre)).map Ad.sp)) = .tuple #[.agg #[.bool (Pf.s q), .int .i64 q.H.toInt, .int .i64 q.L.toInt, .int .i64 q.b], .bool ok] ∧ FAns x us (.tuple #[.agg #[.bool q.s, .int .i64 q.H.toInt, .int .i64 q.L.toInt], .bool ok]) := by
  have hh := left_head x.n x ((us.filter (hadP x.pre)).map Ad.sp) hx rfl (fun t ht => by
    obtain ⟨u, _, rfl⟩ := List.mem_map.1 ht
    rfl)
  have up : ∀ {m}, (∃ t ∈ (us.filter (hadP x.pre)).map Ad.sp, t.s = x.s ∧ t.adr = m) → ∃ u ∈ us, u.s = x.s ∧ u.adr = m := fun ⟨t, ht, h⟩ => by
    obtain ⟨u, hu, rfl⟩ := List.mem_map.1 ht
    exact ⟨u, (List.mem_filter.1 hu).1, h⟩
  have dn : ∀ u ∈ us, u.s = x.s → ∀ m, m < 2 ^ x.n → u.adr = x.adr + m → u.sp ∈ (us.filter (hadP x.pre)).map Ad.sp := fun u hu hs m hm he => by
    refine List.mem_map.2 ⟨u, List.mem_filter.2 ⟨hu, ?_⟩, rfl⟩
    show hadB x.s x.H x.L ((wd x.s : Int) - x.n) u.s u.H u.L = true
    rw [had_num hx u.s u.H u.L (num_ok hx u hs m hm he)]
    have e : adrN u.H u.L = u.adr := rfl
    exact decide_eq_true ⟨hs, by omega, by omega⟩
  cases hl : leftM x.n x ((us.filter (hadP x.pre)).map Ad.sp) with
  | nil => exact ⟨⟨false, 0, 0, 0⟩, false, rfl, Or.inr ⟨fun m hm => up (hh.1 hl m hm), rfl⟩⟩
  | cons z r =>
    obtain ⟨hs, m, hm, he, hfr, hbe⟩ := hh.2 z r hl
    refine ⟨⟨z.s, z.H, z.L, wd x.s⟩, true, rfl, Or.inl ⟨z.H, z.L, m, hm, he, fun u hu hus hue => ?_, fun j hj => up (hbe j hj), by rw [hs]⟩⟩
    exact hfr u.sp (dn u hu hus m hm hue) hus hue

theorem iFA_yes (x : Sp) (hx : x.ok) (us : List Ad) (hl : us.length ≤ 300) : ∃ q ok, FAns x us (.tuple #[.agg #[.bool (Ad.s q), .int .i64 q.H.toInt, .int .i64 q.L.toInt], .bool ok]) ∧
    ∀ (a : Option Addr) (cap : Nat) (w : World), RowA w a us → Calls Try.prog 6 #[.agg #[.bool x.s, .int .i64 x.H.toInt, .int .i64 x.L.toInt, .int .i64 ((wd x.s : Int) - (x.n : Int))], .slice a us.length cap] w fun e w' => e = .returned (.tuple #[.agg #[.bool q.s, .int .i64 q.H.toInt, .int .i64 q.L.toInt], .bool ok]) ∧ Below w.heap.size w w' := by
  obtain ⟨q, ok, hv, hf⟩ := left_ans x hx us
  have hT : ∀ t ∈ (us.filter (hadP x.pre)).map Ad.sp, t.ok := fun t ht => by
    obtain ⟨u, hu, rfl⟩ := List.mem_map.1 ht
    exact had_ok (List.mem_filter.1 hu).2
  have hTl : ((us.filter (hadP x.pre)).map Ad.sp).length ≤ 300 := by rw [List.length_map]; exact Nat.le_trans (List.length_filter_le _ _) hl
  refine ⟨⟨q.s, q.H, q.L⟩, ok, hf, fun a cap w hB => ?_⟩
  refine iFA x.pre a us.length cap us rfl w hB hl q ok _ rfl fun wx a' c' hR => ?_
  rw [takA_sp] at hR ⊢
  rw [List.length_map]
  have h := iFirst x.pre a' ((us.filter (hadP x.pre)).map Ad.sp).length c' (wd x.s : Int) wx _ (part_gives x.pre a' _ c' (wd x.s : Int) wx _ (left_yes x hx a' c' _ hT wx hR hTl))
  rw [left_room x hx, hv] at h
  exact h

theorem iFA_none (p : Pf) (hp : p.pok = false) (us : List Ad) (hl : us.length ≤ 300) (a : Option Addr) (cap : Nat) (w : World) (hB : RowA w a us) :
    Calls Try.prog 6 #[.agg #[.bool p.s, .int .i64 p.H.toInt, .int .i64 p.L.toInt, .int .i64 p.b], .slice a us.length cap] w fun e w' => e = .returned (.tuple #[.agg #[.bool false, .int .i64 0, .int .i64 0], .bool false]) ∧ Below w.heap.size w w' := by
  have ht : takA p us = [] := by
    unfold takA
    rw [List.map_eq_nil_iff, List.filter_eq_nil_iff]
    intro u _ h
    unfold hadP hadB at h
    have h1 : pokB p.s p.H p.L p.b = false := hp
    rw [h1] at h; cases h
  refine iFA p a us.length cap us rfl w hB hl ⟨false, 0, 0, 0⟩ false 0 (by rw [ht]; rfl) fun wx a' c' hR => ?_
  have hP := part_gives p a' 0 c' (wd p.s : Int) wx [] (left_no p a' c' [] wx (Row.nil _ _) (by simp) (by rw [hp, Bool.false_and]))
  rw [show partL p.s (wd p.s : Int) [] = [] by unfold partL; split <;> rfl] at hP
  exact iFirst p a' 0 c' (wd p.s : Int) wx [] hP

end Go.Proofs.Ytkpbidlcnjppkaa
namespace Go.Proofs.Ytkpbidlcnjppkaa
open Go.RowKit

def FaQ (p : Pf) (us : List Ad) (q : Ad) : Prop := ∃ (x : Sp) (m : Nat), x.ok ∧ x.pre = p ∧ m < 2 ^ x.n ∧ m ≤ 300 ∧ q.s = x.s ∧ adrN q.H q.L = x.adr + m ∧ (∀ u ∈ us, u.s = x.s → u.adr ≠ x.adr + m) ∧ (∀ j, j < m → ∃ u ∈ us, u.s = x.s ∧ u.adr = x.adr + j)
theorem fa_both (p : Pf) (us : List Ad) (hl : us.length ≤ 301) : ∃ (q : Ad) (ok : Bool),
    (∀ (a : Option Addr) (cap : Nat) (w : World), RowA w a us → Calls Try.prog 6 #[.agg #[.bool p.s, .int .i64 p.H.toInt, .int .i64 p.L.toInt, .int .i64 p.b], .slice a us.length cap] w fun e w' => e = .returned (.tuple #[.agg #[.bool q.s, .int .i64 q.H.toInt, .int .i64 q.L.toInt], .bool ok]) ∧ Below w.heap.size w w') ∧
    (∀ (a : Option Addr) (cap : Nat) (w : World), RowA w a us → Calls Try.prog 7 #[.agg #[.bool p.s, .int .i64 p.H.toInt, .int .i64 p.L.toInt, .int .i64 p.b], .slice a us.length cap] w fun e w' => e = .returned (.tuple #[.agg #[.bool q.s, .int .i64 q.H.toInt, .int .i64 q.L.toInt], .bool ok]) ∧ Below w.heap.size w w') ∧ (ok = true → FaQ p us q) := by
  by_cases h3 : 300 < us.length
  · exact ⟨⟨false, 0, 0⟩, false, fun a cap w _ => iFA_big p a us.length cap w (by omega) h3, fun a cap w _ => sFA_no p a us.length cap w (by omega) (Or.inr h3), fun h => by cases h⟩
  · cases hp : p.pok
    · exact ⟨⟨false, 0, 0⟩, false, fun a cap w h => iFA_none p hp us (by omega) a cap w h, fun a cap w _ => sFA_no p a us.length cap w (by omega) (Or.inl hp), fun h => by cases h⟩
    · obtain ⟨x, hx, rfl⟩ := Sp.of_pok (p := p) hp
      obtain ⟨q, ok, hf, hi⟩ := iFA_yes x hx us (by omega)
      refine ⟨q, ok, hi, fun a cap w h => ?_, fun h => ?_⟩
      · refine (sFA_yes x hx a us.length cap us rfl w h (by omega)).mono ?_
        rintro e w' ⟨V, rfl, hV, hb⟩
        exact ⟨by rw [fans_one hV hf], hb⟩
      · subst h
        rcases hf with ⟨X, Y, m, hm, ha, hfr, hbe, hv⟩ | ⟨_, hv⟩
        · simp at hv
          obtain ⟨h1, h2, h3'⟩ := hv
          have e1 := BitVec.eq_of_toInt_eq h2
          have e2 := BitVec.eq_of_toInt_eq h3'
          refine ⟨x, m, hx, rfl, hm, ?_, h1, by rw [e1, e2]; exact ha, hfr, hbe⟩
          have := pig x.adr m (us.map Ad.adr) (fun j hj => by
            obtain ⟨u, hu, _, he⟩ := hbe j hj
            exact List.mem_map.2 ⟨u, hu, he⟩)
          rw [List.length_map] at this
          omega
        · simp at hv
/-- Whether one of the first i is this address. -/
def tkB (s : Bool) (X Y : BitVec 64) (us : List Ad) (i : Nat) : Bool := (us.take i).any (eqU s X Y)
theorem tkB_next {s : Bool} {X Y : BitVec 64} {us : List Ad} {i : Nat} {u : Ad} (h : us[i]? = some u) : tkB s X Y us (i + 1) = (tkB s X Y us i || eqU s X Y u) := by
  unfold tkB
  rw [List.take_add_one, h, List.any_append]
  simp
theorem tkB_all {s : Bool} {X Y : BitVec 64} {us : List Ad} {i : Nat} (h : us.length ≤ i) : tkB s X Y us i = us.any (eqU s X Y) := by unfold tkB; rw [List.take_of_length_le h]
/-- It is taken just if it lies ahead. -/
theorem tk_iff {x : Sp} {us : List Ad} {m k : Nat} {X Y : BitVec 64} (hk : k ≤ m) (ha : adrN X Y = x.adr + k) (hfr : ∀ u ∈ us, u.s = x.s → u.adr ≠ x.adr + m) (hbe : ∀ j, j < m → ∃ u ∈ us, u.s = x.s ∧ u.adr = x.adr + j) : us.any (eqU x.s X Y) = decide ((k : Int) < (m : Int)) := by
  by_cases h : k < m
  · rw [decide_eq_true (by omega), List.any_eq_true]
    obtain ⟨u, hu, hs, he⟩ := hbe k h
    exact ⟨u, hu, (eqU_iff _ _ _ _).2 ⟨hs, he.trans ha.symm⟩⟩
  · have e : k = m := by omega
    subst e
    rw [decide_eq_false (by omega)]
    rw [Bool.eq_false_iff]
    intro hc
    rw [List.any_eq_true] at hc
    obtain ⟨u, hu, hq⟩ := hc
    obtain ⟨hs, he⟩ := (eqU_iff _ _ _ _).1 hq
    exact hfr u hu hs (he.trans ha)
theorem eqT_run (u : Ad) (s : Bool) (X Y : BitVec 64) (w : World) : (Op.equalIn 10000 25 (.agg #[.bool u.s, .int .i64 u.H.toInt, .int .i64 u.L.toInt]) (.agg #[.bool s, .int .i64 X.toInt, .int .i64 Y.toInt])).run Try.prog w = .ok (eqU s X Y u) w := by
  have u3 := Try.underlying3
  have a3 := Try.isAgg3
  have z3 := Try.sizeOf3
  have u4 := Try.underlying4
  have a4 := Try.isAgg4
  have z4 := Try.sizeOf4
  have hS : Try.prog.underlying 25 = some (.struct (Try.prog.fieldsOf 25)) := by kernel_rfl
  have hp : Try.prog.stoodInHeld 25 = false := by kernel_rfl
  have hE : eqU s X Y u = (u.s == s && (u.H.toInt == X.toInt && u.L.toInt == Y.toInt)) := by
    unfold eqU
    congr 1
    congr 1
    · rw [Bool.eq_iff_iff, beq_iff_eq, beq_iff_eq]; exact ⟨fun h => by rw [h], BitVec.eq_of_toInt_eq⟩
    · rw [Bool.eq_iff_iff, beq_iff_eq, beq_iff_eq]; exact ⟨fun h => by rw [h], BitVec.eq_of_toInt_eq⟩
  rw [hE, show (10000 : Nat) = 9999 + 1 from rfl, run_equalIn_agg w 9999 25 _ _ hS hp]
  simp only [Program.fieldsOf, Try.underlying25]
  go_simp
  by_cases h1 : u.s = s <;> by_cases h2 : u.H.toInt = X.toInt <;> by_cases h3 : u.L.toInt = Y.toInt <;> simp [h1, h2, h3]

end Go.Proofs.Ytkpbidlcnjppkaa
namespace Go.Proofs.Ytkpbidlcnjppkaa
open Go.ChangeShapes Go.WideShapes Go.ChangeAt Go.RowKit Go.Joins Go.Deep

/-- A box and what lies in it. -/
structure BoF (x : World) (p : Nat) (vs : List Value) : Prop where
  cel : ∀ i v, vs[i]? = some v → x.cell? ⟨p, i, none⟩ = some v
  lt : p < x.heap.size
theorem BoF.later {x y : World} {p : Nat} {vs : List Value} (h : BoF x p vs) (k : Below x.heap.size x y) : BoF y p vs :=
  ⟨fun i v hv => (k.cell (p := ⟨p, i, none⟩) h.lt).trans (h.cel i v hv), Nat.lt_of_lt_of_le h.lt k.size⟩
theorem BoF.new (x : World) (vs : List Value) (t : TypeId) : BoF (x.alloc (.cells vs.toArray t)) x.heap.size vs := ⟨fun i v hv => by simp [go_sem, hv], by simp⟩

set_option maxRecDepth 10000 in
set_option maxHeartbeats 8000000 in
theorem lawFAd (a : Option Addr) (len cap : Nat) (w : World) (hB : Bytes w a len) (hl : len ≤ 1048576) :
    Calls Try.prog 3 #[.slice a len cap] w fun e w' => e = .returned (.bool true) ∧ Below w.heap.size w w' := by
  have HBy := hidP hB
  clear hB
  have hbig : ∀ wx : World, Calls Try.prog 4 #[.slice a len cap] wx fun e w' => e = .returned (.bool false) ∧ wx = w' := fun wx => by
    have d : decide ((1048576 : Int) < (len : Int)) = false := decide_eq_false (by omega)
    go_enter Try.func4, Try.ntmps4
    go_wp2
    go_ret
    exact ⟨rfl, rfl⟩
  have HG := hidP hbig
  clear hbig
  go_enter Try.func3, Try.ntmps3
  go_wp2_with fail
  refine (HG.out _).mono ?_
  rintro e w0 ⟨rfl, rfl⟩
  go_wp2_with fail
  refine (drawFA_any a len cap w HBy.out hl).mono ?_
  rintro e w1 ⟨⟨p, us, b, n, d, hn, hn3, rfl, hR⟩, hb1⟩
  subst hn
  obtain ⟨q, ok, cI, cS, hq⟩ := fa_both p us hn3
  have HI := hidP cI
  have HS := hidP cS
  have HQ := hidP hq
  have HR := hidP hR
  have A1 := hidP hb1
  clear cI cS hq hR hb1 HG HBy hl
  generalize hN : us.length = N at *
  have HN := hidP hN
  clear hN
  go_wp2_with fail
  have p1 := hidP (BoF.new w1 [.bool p.s, .int .i64 p.H.toInt, .int .i64 p.L.toInt, .int .i64 p.b] 27)
  have k1 := alloc_belowF w1 (.cells #[.bool p.s, .int .i64 p.H.toInt, .int .i64 p.L.toInt, .int .i64 p.b] 27)
  have R2 := hidP (HR.out.later k1)
  have A2 := hidP (A1.out.trans (k1.mono A1.out.size))
  clear k1 HR A1
  generalize w1.alloc (.cells #[.bool p.s, .int .i64 p.H.toInt, .int .i64 p.L.toInt, .int .i64 p.b] 27) = w2 at *
  generalize w1.heap.size = eP at *
  refine (HI.out b d _ R2.out).mono ?_
  rintro e w3 ⟨rfl, k3⟩
  have p3 := hidP (p1.out.later k3)
  have R3 := hidP (R2.out.later k3)
  have A3 := hidP (A2.out.trans (k3.mono A2.out.size))
  clear k3 p1 R2 A2 HI
  have c0 := p3.out.cel 0 _ rfl
  have c1 := p3.out.cel 1 _ rfl
  have c2 := p3.out.cel 2 _ rfl
  have c3 := p3.out.cel 3 _ rfl
  have cl := p3.out.lt
  go_wp2_with fail
  have q4 := hidP (BoF.new w3 [.bool q.s, .int .i64 q.H.toInt, .int .i64 q.L.toInt] 25)
  have k4 := alloc_belowF w3 (.cells #[.bool q.s, .int .i64 q.H.toInt, .int .i64 q.L.toInt] 25)
  have p4 := hidP (p3.out.later k4)
  have R4 := hidP (R3.out.later k4)
  have A4 := hidP (A3.out.trans (k4.mono A3.out.size))
  clear k4 p3 R3 A3 c0 c1 c2 c3 cl
  generalize w3.alloc (.cells #[.bool q.s, .int .i64 q.H.toInt, .int .i64 q.L.toInt] 25) = w4 at *
  generalize w3.heap.size = eQ at *
  refine (HS.out b d _ R4.out).mono ?_
  rintro e w5 ⟨rfl, k5⟩
  have p5 := hidP (p4.out.later k5)
  have q5 := hidP (q4.out.later k5)
  have R5 := hidP (R4.out.later k5)
  have A5 := hidP (A4.out.trans (k5.mono A4.out.size))
  clear k5 p4 q4 R4 A4 HS
  have k6 := alloc_belowF w5 (.cells #[.bool q.s, .int .i64 q.H.toInt, .int .i64 q.L.toInt] 25)
  have p6 := hidP (p5.out.later k6)
  have q6 := hidP (q5.out.later k6)
  have R6 := hidP (R5.out.later k6)
  have A6 := hidP (A5.out.trans (k6.mono A5.out.size))
  clear k6 p5 q5 R5 A5
  cases ok
  · go_wp2_with fail
    go_ret
    exact ⟨rfl, A6.out⟩
  · obtain ⟨sp, m, hx, hp, hm, hm3, hs, ha, hfr, hbe⟩ := HQ.out rfl
    obtain ⟨X', Y', ha', _, cP⟩ := inth_yes hx m hm (by omega)
    obtain ⟨e1, e2⟩ := adrN_inj (ha'.trans ha.symm)
    rw [e1, e2, ← hs] at cP
    have cP' : ∀ w : World, Calls Try.prog 8 #[.agg #[.bool p.s, .int .i64 p.H.toInt, .int .i64 p.L.toInt, .int .i64 p.b], .agg #[.bool q.s, .int .i64 q.H.toInt, .int .i64 q.L.toInt]] w fun e w' => e = .returned (.tuple #[.int .i64 m, .bool true]) ∧ Below w.heap.size w w' := fun w => by
      have h := cP w
      rw [hs] at h
      rw [← hp, hs]
      exact h
    have HP := hidP cP'
    have HX := hidP hx
    have HPr := hidP hp
    have HM := hidP hm
    have HFr := hidP hfr
    have HBe := hidP hbe
    clear cP cP' e1 e2 ha' hx hp hfr hbe ha hm hs HQ
    go_upto_region 8 with fail
    generalize w5.alloc (.cells #[.bool q.s, .int .i64 q.H.toInt, .int .i64 q.L.toInt] 25) = w6 at *
    have c0 := p6.out.cel 0 _ rfl
    have c1 := p6.out.cel 1 _ rfl
    have c2 := p6.out.cel 2 _ rfl
    have c3 := p6.out.cel 3 _ rfl
    have cl := p6.out.lt
    have d0 := q6.out.cel 0 _ rfl
    have d1 := q6.out.cel 1 _ rfl
    have d2 := q6.out.cel 2 _ rfl
    have dl := q6.out.lt
    go_wp2_with fail
    refine (HP.out _).mono ?_
    rintro e w7 ⟨rfl, k7⟩
    have p7 := hidP (p6.out.later k7)
    have R7 := hidP (R6.out.later k7)
    have A7 := hidP (A6.out.trans (k7.mono A6.out.size))
    clear k7 p6 q6 R6 A6 HP c0 c1 c2 c3 cl d0 d1 d2 dl
    go_wp2_with fail
    go_loopw [11] (fun t11 wr => ∃ k : Nat, k ≤ m + 1 ∧ t11 = .int .i64 k ∧ Below w7.heap.size w7 wr) (fun t11 _ => m + 1 - (intOf t11).toNat)
    case atStart => exact ⟨0, Nat.zero_le _, rfl, Below.refl _ _⟩
    case round =>
      obtain ⟨k, hk, rfl, hbel⟩ := hrel
      obtain ⟨v, rfl⟩ : ∃ X, X = wr := ⟨_, rfl⟩
      have HB := hidP hbel
      have pv := hidP (p7.out.later hbel)
      have Rv := hidP (R7.out.later hbel)
      clear hbel
      have c0 := pv.out.cel 0 _ rfl
      have c1 := pv.out.cel 1 _ rfl
      have c2 := pv.out.cel 2 _ rfl
      have c3 := pv.out.cel 3 _ rfl
      have cl := pv.out.lt
      by_cases hkm : k ≤ m
      · have hkm' : (k : Int) ≤ (m : Int) := by omega
        have gk : decide ((k : Int) ≤ (m : Int)) = true := decide_eq_true hkm'
        obtain ⟨X, Y, ha, cN, _⟩ := inth_yes HX.out k (by have := HM.out; omega) (by omega)
        have cN' : ∀ w : World, Calls Try.prog 9 #[.agg #[.bool p.s, .int .i64 p.H.toInt, .int .i64 p.L.toInt, .int .i64 p.b], .int .i64 k] w fun e w' => e = .returned (.tuple #[.agg #[.bool sp.s, .int .i64 X.toInt, .int .i64 Y.toInt], .bool true]) ∧ Below w.heap.size w w' := fun w => by
          rw [← HPr.out]; exact cN w
        have HNt := hidP cN'
        have HTk := hidP (tk_iff hkm ha HFr.out HBe.out)
        clear cN cN' ha
        go_wp2_with fail
        refine (HNt.out _).mono ?_
        rintro e w8 ⟨rfl, k8⟩
        have R8 := hidP (Rv.out.later k8)
        have B8 := hidP (HB.out.trans (k8.mono HB.out.size))
        clear k8 HNt c0 c1 c2 c3 cl
        have n9 := hidP (BoF.new w8 [.bool sp.s, .int .i64 X.toInt, .int .i64 Y.toInt] 25)
        have k9 := alloc_belowF w8 (.cells #[.bool sp.s, .int .i64 X.toInt, .int .i64 Y.toInt] 25)
        have R9 := hidP (R8.out.later k9)
        have B9 := hidP (B8.out.trans (k9.mono B8.out.size))
        clear k9 R8 B8
        go_wp2_with fail
        generalize w8.alloc (.cells #[.bool sp.s, .int .i64 X.toInt, .int .i64 Y.toInt] 25) = w9 at *
        generalize w8.heap.size = eX at *
        go_loopw [14, 15] (fun t14 t15 wr => ∃ i : Nat, i ≤ N ∧ t15 = .int .i64 i ∧ t14 = .bool (tkB sp.s X Y us i) ∧ Below w9.heap.size w9 wr) (fun _ t15 _ => N - (intOf t15).toNat)
        case atStart => exact ⟨0, Nat.zero_le _, rfl, rfl, Below.refl _ _⟩
        case round =>
          obtain ⟨i, hi, rfl, rfl, hbel⟩ := hrel
          have HBi := hidP hbel
          have nr := hidP (n9.out.later hbel)
          have Rr := hidP (R9.out.later hbel)
          clear hbel
          by_cases hlt : i < N
          · have i0 : (0 : Int) ≤ (i : Int) := by omega
            have i1 : (i : Int) < (N : Int) := by omega
            obtain ⟨pp, oo, u, rfl, hpp, hu, f0, f1, f2⟩ := Rr.out i (by have := HN.out; omega)
            have HNx := hidP (tkB_next (s := sp.s) (X := X) (Y := Y) hu)
            have hE := fun wx => eqT_run u sp.s X Y wx
            generalize tkB sp.s X Y us i = tc at *
            generalize eqU sp.s X Y u = r at *
            have x0 := nr.out.cel 0 _ rfl
            have x1 := nr.out.cel 1 _ rfl
            have x2 := nr.out.cel 2 _ rfl
            have xl := nr.out.lt
            go_upto_region 19 with fail
            clear hu
            cases tc
            · cases r
              · have HSx : Hid (∀ x, Below wr.heap.size wr x → (x.cell? ⟨pp, oo + i * 3, none⟩ = some (.bool u.s) ∧ x.cell? ⟨pp, oo + i * 3 + 1, none⟩ = some (.int .i64 u.H.toInt) ∧ x.cell? ⟨pp, oo + i * 3 + 2, none⟩ = some (.int .i64 u.L.toInt) ∧ x.cell? ⟨eX, 0, none⟩ = some (.bool sp.s) ∧ x.cell? ⟨eX, 1, none⟩ = some (.int .i64 X.toInt) ∧ x.cell? ⟨eX, 2, none⟩ = some (.int .i64 Y.toInt) ∧ Below wr.heap.size wr x)) := hidP fun x h =>
                  ⟨(h.cell hpp).trans f0, (h.cell hpp).trans f1, (h.cell hpp).trans f2, (h.cell xl).trans x0, (h.cell xl).trans x1, (h.cell xl).trans x2, h⟩
                refine wp_region_held_drew (S := (fun x => x.cell? ⟨pp, oo + i * 3, none⟩ = some (.bool u.s) ∧ x.cell? ⟨pp, oo + i * 3 + 1, none⟩ = some (.int .i64 u.H.toInt) ∧ x.cell? ⟨pp, oo + i * 3 + 2, none⟩ = some (.int .i64 u.L.toInt) ∧ x.cell? ⟨eX, 0, none⟩ = some (.bool sp.s) ∧ x.cell? ⟨eX, 1, none⟩ = some (.int .i64 X.toInt) ∧ x.cell? ⟨eX, 2, none⟩ = some (.int .i64 Y.toInt) ∧ Below wr.heap.size wr x)) (by kernel_rfl) ?_ (fun hHeld => ?_)
                · try dsimp only
                  exact HSx.out _ ((Below.refl _ _).drew)
                refine tk 0 70 rfl ?_
                simp only [pa]
                refine tk 1 71 rfl ?_
                simp only [pa]
                refine tk 2 72 rfl ?_
                simp only [pa]
                refine tk 3 73 rfl ?_
                simp only [pa]
                refine tk 4 74 rfl ?_
                simp only [pa]
                refine tk 5 75 rfl ?_
                simp only [pa]
                refine tk 6 76 rfl ?_
                simp only [pa]
                refine tk 7 77 rfl ?_
                simp only [pa]
                refine tk 8 78 rfl ?_
                simp only [pa]
                refine tk 9 14 rfl ?_
                simp only [pa]
                have HE := hidP (hHeld.2.2.2.2.2.2)
                refine wpAnyH_done (by kernel_rfl) ?_ _
                clear hHeld
                go_wp2_with fail
                go_roundw
                case rel => exact ⟨i + 1, by omega, by go_num, by rw [HNx.out]; rfl, HBi.out.trans (HE.out.mono HBi.out.size)⟩
                case measure => simp [intOf]; omega
              · have HSx : Hid (∀ x, Below wr.heap.size wr x → (x.cell? ⟨pp, oo + i * 3, none⟩ = some (.bool u.s) ∧ x.cell? ⟨pp, oo + i * 3 + 1, none⟩ = some (.int .i64 u.H.toInt) ∧ x.cell? ⟨pp, oo + i * 3 + 2, none⟩ = some (.int .i64 u.L.toInt) ∧ x.cell? ⟨eX, 0, none⟩ = some (.bool sp.s) ∧ x.cell? ⟨eX, 1, none⟩ = some (.int .i64 X.toInt) ∧ x.cell? ⟨eX, 2, none⟩ = some (.int .i64 Y.toInt) ∧ Below wr.heap.size wr x)) := hidP fun x h =>
                  ⟨(h.cell hpp).trans f0, (h.cell hpp).trans f1, (h.cell hpp).trans f2, (h.cell xl).trans x0, (h.cell xl).trans x1, (h.cell xl).trans x2, h⟩
                refine wp_region_held_drew (S := (fun x => x.cell? ⟨pp, oo + i * 3, none⟩ = some (.bool u.s) ∧ x.cell? ⟨pp, oo + i * 3 + 1, none⟩ = some (.int .i64 u.H.toInt) ∧ x.cell? ⟨pp, oo + i * 3 + 2, none⟩ = some (.int .i64 u.L.toInt) ∧ x.cell? ⟨eX, 0, none⟩ = some (.bool sp.s) ∧ x.cell? ⟨eX, 1, none⟩ = some (.int .i64 X.toInt) ∧ x.cell? ⟨eX, 2, none⟩ = some (.int .i64 Y.toInt) ∧ Below wr.heap.size wr x)) (by kernel_rfl) ?_ (fun hHeld => ?_)
                · try dsimp only
                  exact HSx.out _ ((Below.refl _ _).drew)
                refine tk 0 70 rfl ?_
                simp only [pa]
                refine tk 1 71 rfl ?_
                simp only [pa]
                refine tk 2 72 rfl ?_
                simp only [pa]
                refine tk 3 73 rfl ?_
                simp only [pa]
                refine tk 4 74 rfl ?_
                simp only [pa]
                refine tk 5 75 rfl ?_
                simp only [pa]
                refine tk 6 76 rfl ?_
                simp only [pa]
                refine tk 7 77 rfl ?_
                simp only [pa]
                refine tk 8 78 rfl ?_
                simp only [pa]
                refine tk 9 14 rfl ?_
                simp only [pa]
                have HE := hidP (hHeld.2.2.2.2.2.2)
                refine wpAnyH_done (by kernel_rfl) ?_ _
                clear hHeld
                go_wp2_with fail
                go_roundw
                case rel => exact ⟨i + 1, by omega, by go_num, by rw [HNx.out]; rfl, HBi.out.trans (HE.out.mono HBi.out.size)⟩
                case measure => simp [intOf]; omega
            · have HSx : Hid (∀ x, Below wr.heap.size wr x → (x.cell? ⟨pp, oo + i * 3, none⟩ = some (.bool u.s) ∧ x.cell? ⟨pp, oo + i * 3 + 1, none⟩ = some (.int .i64 u.H.toInt) ∧ x.cell? ⟨pp, oo + i * 3 + 2, none⟩ = some (.int .i64 u.L.toInt) ∧ x.cell? ⟨eX, 0, none⟩ = some (.bool sp.s) ∧ x.cell? ⟨eX, 1, none⟩ = some (.int .i64 X.toInt) ∧ x.cell? ⟨eX, 2, none⟩ = some (.int .i64 Y.toInt) ∧ Below wr.heap.size wr x)) := hidP fun x h =>
                ⟨(h.cell hpp).trans f0, (h.cell hpp).trans f1, (h.cell hpp).trans f2, (h.cell xl).trans x0, (h.cell xl).trans x1, (h.cell xl).trans x2, h⟩
              refine wp_region_held_drew (S := (fun x => x.cell? ⟨pp, oo + i * 3, none⟩ = some (.bool u.s) ∧ x.cell? ⟨pp, oo + i * 3 + 1, none⟩ = some (.int .i64 u.H.toInt) ∧ x.cell? ⟨pp, oo + i * 3 + 2, none⟩ = some (.int .i64 u.L.toInt) ∧ x.cell? ⟨eX, 0, none⟩ = some (.bool sp.s) ∧ x.cell? ⟨eX, 1, none⟩ = some (.int .i64 X.toInt) ∧ x.cell? ⟨eX, 2, none⟩ = some (.int .i64 Y.toInt) ∧ Below wr.heap.size wr x)) (by kernel_rfl) ?_ (fun hHeld => ?_)
              · try dsimp only
                exact HSx.out _ ((Below.refl _ _).drew)
              refine tk 0 70 rfl ?_
              simp only [pa]
              refine tk 1 71 rfl ?_
              simp only [pa]
              refine sk 2 72 rfl ?_
              simp only [pa]
              refine sk 3 73 rfl ?_
              simp only [pa]
              refine sk 4 74 rfl ?_
              simp only [pa]
              refine sk 5 75 rfl ?_
              simp only [pa]
              refine sk 6 76 rfl ?_
              simp only [pa]
              refine sk 7 77 rfl ?_
              simp only [pa]
              refine tk 8 78 rfl ?_
              simp only [pa]
              refine tk 9 14 rfl ?_
              simp only [pa]
              have HE := hidP (hHeld.2.2.2.2.2.2)
              refine wpAnyH_done (by kernel_rfl) ?_ _
              clear hHeld
              go_wp2_with fail
              go_roundw
              case rel => exact ⟨i + 1, by omega, by go_num, by rw [HNx.out]; rfl, HBi.out.trans (HE.out.mono HBi.out.size)⟩
              case measure => simp [intOf]; omega
          · have HT := hidP (tkB_all (s := sp.s) (X := X) (Y := Y) (us := us) (i := i) (by have := HN.out; omega))
            rw [HT.out, HTk.out]
            have gi : decide ((i : Int) < (N : Int)) = false := decide_eq_false (by omega)
            have BB := hidP (B9.out.trans (HBi.out.mono B9.out.size))
            clear HT HBi nr Rr
            by_cases hkl : (k : Int) < (m : Int)
            · rw [decide_eq_true hkl]
              have gk2 : decide ((k : Int) < (m : Int)) = true := decide_eq_true hkl
              go_wp2_with fail
              go_roundw
              case rel => exact ⟨k + 1, by omega, by go_num, BB.out⟩
              case measure => simp [intOf]; omega
            · rw [decide_eq_false hkl]
              have gk2 : decide ((k : Int) < (m : Int)) = false := decide_eq_false hkl
              go_wp2_with fail
              go_roundw
              case rel => exact ⟨k + 1, by omega, by go_num, BB.out⟩
              case measure => simp [intOf]; omega
      · have hkm' : ¬ ((k : Int) ≤ (m : Int)) := by omega
        have gk : decide ((k : Int) ≤ (m : Int)) = false := decide_eq_false hkm'
        clear c0 c1 c2 c3 cl
        go_wp2_with fail
        go_ret
        exact ⟨rfl, A7.out.trans (HB.out.mono A7.out.size)⟩

set_option maxHeartbeats 1000000 in
theorem lawFAd_all (a : Option Addr) (len cap : Nat) (w : World) (hB : Bytes w a len) :
    Calls Try.prog 3 #[.slice a len cap] w fun e w' => e = .returned (.bool true) ∧ Below w.heap.size w w' := by
  by_cases hl : len ≤ 1048576
  · exact lawFAd a len cap w hB hl
  · have hbig : ∀ wx : World, Calls Try.prog 4 #[.slice a len cap] wx fun e w' => e = .returned (.bool true) ∧ wx = w' := fun wx => by
      have d : decide ((1048576 : Int) < (len : Int)) = true := decide_eq_true (by omega)
      go_enter Try.func4, Try.ntmps4
      go_wp2
      go_ret
      exact ⟨rfl, rfl⟩
    have HG : Hid (∀ wx : World, _) := hbig
    clear hbig
    go_enter Try.func3, Try.ntmps3
    go_wp2_with fail
    refine (HG.out _).mono ?_
    rintro e w0 ⟨rfl, rfl⟩
    go_wp2_with fail
    go_ret
    exact ⟨rfl, Below.refl _ _⟩

theorem Try.ownFAd : ownKnob Try.prog.godebug = none := by kernel_rfl
theorem Try.laidOutFAd : laidOutB Try.prog = true := by kernel_rfl
theorem Try.cellsByte : Try.prog.cellsOf 5 = 1 := by kernel_rfl

/-- The code's bytes out of the reading of a row of bytes. -/
theorem bytes_open {H : Type} {enc : TypeId × Value → H} {W : World} {a : Option Addr} {len cap : Nat} {d : DataW H} {p : List MemPlace}
    (h : DataW.Trod enc Try.prog W 0 (fun _ => true) true 22 (.slice a len cap) d p) : Bytes W a len := by
  obtain ⟨fuel, hf⟩ := h
  rcases open_slice1 Try.underlying22 Try.cellsByte hf with ⟨hcs, _⟩ | ⟨a', len', cap', m, n, V, D, Pl, hcs, _, hl, _, hm, _, hV⟩
  · simp [Value.cells] at hcs
    obtain ⟨rfl, rfl, rfl⟩ := hcs
    exact fun j hj => absurd hj (Nat.not_lt_zero j)
  · simp [Value.cells] at hcs
    obtain ⟨rfl, rfl, rfl⟩ := hcs
    intro j hj
    simp at hm
    obtain ⟨hc, ht⟩ := hV j (by omega)
    obtain ⟨v, e, _, wv⟩ := DataW.trod_int Try.underlying5 ht
    simp at e
    rw [e] at hc
    have hb : 0 ≤ v ∧ v ≤ 255 := by simpa [Lit.wf, IntKind.min, IntKind.max, IntKind.signed, IntKind.bits] using wv
    obtain ⟨p', o', sp⟩ := a'
    cases sp with
    | some q =>
      exfalso
      have h0 := (hV 0 (by omega)).1
      rw [show Addr.add ⟨p', o', some q⟩ 0 = ⟨p', o', some q⟩ from rfl] at h0
      unfold World.cell? at h0
      split at h0
      · simp at h0
      · cases h0
    | none =>
      have hc' : W.cell? ⟨p', o' + j, none⟩ = some (.int .u8 v) := by
        cases j with
        | zero => simpa [Addr.add] using hc
        | succ i => simpa [Addr.add] using hc
      exact ⟨p', o', v, rfl, World.block_lt_of_cell? W _ hc', hc', hb.1, by omega⟩

set_option maxRecDepth 100000 in
theorem firstAddrD_lifted (os : Os) (started : os.Started) (H : Type) (enc : TypeId × Value → H) :
    ReturnsInHanded {} Try.checked os 3 .any (Rows.fnFirstAddrSpec.pre6 enc Try.prog Try.f3 Rows.fnFirstAddrRow.domain false) (Rows.fnFirstAddrSpec.post enc Try.prog Try.f3 false true false false) := by
  refine returnsInHanded_of_change (C := Try.checked) Try.ownFAd started (by kernel_rfl) Try.func3
    (ChangeSpec.witness6 (enc := enc) (C := Try.checked) false ⟨#[], #[.slice none 0 0], []⟩ 8 (by kernel_rfl) (by kernel_rfl) (by kernel_rfl) (by kernel_rfl)) ?_
  intro W base args ds gs before hval0 hW _ _
  have hval : ∀ (j : Nat) t v, Try.f3.params[j]? = some t → args[j]? = some v → Value.okWide Try.prog W .any base t v := hval0
  have hW' := hW
  obtain ⟨p, q, hA0, hV, rfl, _, _⟩ := hW
  have hA : DataW.TrodAll enc Try.prog W 0 (fun _ => true) true Try.f3.params.toList args.toList ds p := hA0
  rw [Try.params3] at hA hval
  obtain ⟨v0, d0, rfl, rfl, h0⟩ := trodAll_one hA
  obtain ⟨rfl, rfl⟩ := trodVars_none hV
  obtain ⟨a0, len, cap, rfl⟩ := okWide_slice Try.underlying22 (hval 0 22 v0 rfl rfl)
  clear hA0 hval0
  simp only [List.append_nil] at hW'
  have hlt : ∀ x ∈ p, x.block < W.heap.size := fun x hx => by simpa using hW'.lt x hx
  refine (lawFAd_all a0 len cap W (bytes_open h0)).mono fun e W' ⟨he, hb⟩ => ?_
  subst he
  exact ⟨_, rfl, ⟨_, _, _, [], p, [], hW', trodAll_mk1 (shut_bool Try.underlying4 true), trodAll_mk1 (Below.trod Try.laidOutFAd (by kernel_rfl) (of_decide_eq_true (by kernel_rfl)) h0 hb hlt), rfl, hb.frame _, fun h => by cases h⟩⟩

theorem firstAddrD_holds : Rows.FnFirstAddrSaid :=
  OpenClaim.holds_of_wide 3 Try.f3 rfl rfl rfl rfl rfl rfl rfl ⟨rfl, rfl, rfl, rfl, rfl⟩ rfl rfl rfl rfl rfl (by kernel_rfl) Try.func3 (by kernel_rfl)
    (of_decide_eq_true (by kernel_rfl)) (by unfold Func.isWrapper; rw [if_neg (of_decide_eq_false (by kernel_rfl))]; exact ⟨rfl, rfl⟩)
    (fun os started H enc _ => firstAddrD_lifted os started H enc)

end Go.Proofs.Ytkpbidlcnjppkaa
