/-
  The program's blocksOk.
-/
import Derived.Test.YtdbcdichmmcnbaaGreatZK33
import Derived.Test.YtdbcdichmmcnbaaGreatZK1
namespace Go.Proofs.YtdbcdichmmcnbaaGreat
open Go.RowKit

theorem box2 {u v : Value} (w : World) (t : TypeId) : (w.alloc (.cells #[u, v] t)).cell? ⟨w.heap.size, 0, none⟩ = some u ∧ (w.alloc (.cells #[u, v] t)).cell? ⟨w.heap.size, 1, none⟩ = some v := by
  exact ⟨by simp [go_sem], by simp [go_sem]⟩

set_option maxRecDepth 10000 in
set_option maxHeartbeats 4000000 in
theorem blocksOk_any (ap : Option Addr) (np cp : Nat) (ab : Option Addr) (nb cb : Nat) (ps : List Pl) (bs : List Bk) (w : World) (hnp : np = ps.length) (hnb : nb = bs.length) (hP : RowG KPl w ap ps) (hK : RowG KBk w ab bs) (hlp : np ≤ 9000000000) (hl : nb ≤ 9000000000) (hst : ∀ q ∈ bs, q.t.size ≤ 9223372036854775807) :
    Calls Tryz.prog 51 #[.agg #[.slice ap np cp, .slice ab nb cb]] w fun e w' => e = .returned (.bool (blocksI ps none bs)) ∧ Below w.heap.size w w' := by
  have HBP := hidP hP
  have HB := hidP hK
  have HNP := hidP hnp
  have HN := hidP hnb
  have HST := hidP hst
  clear hP hK hnp hnb hst
  go_enter Tryz.func51, Tryz.ntmps51
  go_wp2_with fail
  obtain ⟨u0, u1⟩ := box2 (u := .slice ap np cp) (v := .slice ab nb cb) w 27
  have uB := alloc_below w (.cells #[.slice ap np cp, .slice ab nb cb] 27)
  have uL := alloc_lt w (.cells #[.slice ap np cp, .slice ab nb cb] 27)
  have uS : (w.alloc (.cells #[.slice ap np cp, .slice ab nb cb] 27)).heap.size = w.heap.size + 1 := by simp
  generalize w.alloc (.cells #[.slice ap np cp, .slice ab nb cb] 27) = W1 at *
  have HUB := hidP uB
  have HP1 := hidP (HBP.out.later uB)
  have HB1 := hidP (HB.out.later uB)
  clear uB uS HBP HB
  go_loopw [3, 4, 8] (fun _ _ t8 wr => ∃ k : Nat, k ≤ nb ∧ t8 = .int .i64 k ∧ blocksI ps none bs = blocksI ps (prvB bs k) (bs.drop k) ∧ (∀ r, prvB bs k = some r → carB ps r = true) ∧ Below W1.heap.size W1 wr) (fun _ _ t8 _ => nb - (intOf t8).toNat)
  case atStart => exact ⟨0, Nat.zero_le _, rfl, rfl, (fun r h => by cases h), Below.refl _ _⟩
  case round =>
    obtain ⟨k, hk, rfl, hpo, hpr, hbel⟩ := hrel
    by_cases hlt : k < nb
    · obtain ⟨p, o, q, rfl, hp, hq, c0, c1, c2, c3, c4⟩ := rowBk HB1.out k (by rw [← HN.out]; exact hlt)
      have d0 := (hbel.cell hp).trans c0
      have d1 := (hbel.cell hp).trans c1
      have d2 := (hbel.cell hp).trans c2
      have d3 := (hbel.cell hp).trans c3
      have d4 := (hbel.cell hp).trans c4
      have v0 := (hbel.cell uL).trans u0
      have v1 := (hbel.cell uL).trans u1
      have hpw : p < wr.heap.size := Nat.lt_of_lt_of_le hp hbel.size
      have huw : w.heap.size < wr.heap.size := Nat.lt_of_lt_of_le uL hbel.size
      rw [drop_at hq] at hpo
      have hpo' : blocksI ps none bs = (((ownB q.t && carB ps q.p) && (match prvB bs k with | none => true | some r => folB r q.p)) && blocksI ps (some q.p) (bs.drop (k + 1))) := hpo
      have HNx := hidP (prvB_next hq)
      have HPo := hidP hpo'
      have HPr := hidP hpr
      have HBel := hidP hbel
      have HOw := hidP (fun w => iOwnerOk_any q.t w (HST.out q (List.mem_of_getElem? hq)))
      have HCa := hidP (fun W h => isCarved_any q.p ap np cp ps W HNP.out (HP1.out.later h) hlp)
      clear c0 c1 c2 c3 c4 hq hpo hpo' hpr hbel
      cases hok : ownB q.t
      · rw [hok] at HOw HPo
        have HF : Hid (blocksI ps none bs = false) := hidP (by rw [HPo.out]; rfl)
        clear HPo HPr HNx
        go_wp2_with fail
        obtain ⟨x0, x1, x2, x3, x4⟩ := boxBk (q := q) wr 38
        have xB := alloc_below wr (.cells #[.bool q.p.s, .int .i64 q.p.H.toInt, .int .i64 q.p.L.toInt, .int .i64 q.p.b, .string q.t] 38)
        have xL := alloc_lt wr (.cells #[.bool q.p.s, .int .i64 q.p.H.toInt, .int .i64 q.p.L.toInt, .int .i64 q.p.b, .string q.t] 38)
        have xS : (wr.alloc (.cells #[.bool q.p.s, .int .i64 q.p.H.toInt, .int .i64 q.p.L.toInt, .int .i64 q.p.b, .string q.t] 38)).heap.size = wr.heap.size + 1 := by simp
        generalize wr.alloc (.cells #[.bool q.p.s, .int .i64 q.p.H.toInt, .int .i64 q.p.L.toInt, .int .i64 q.p.b, .string q.t] 38) = W2 at *
        have HXB := hidP xB
        clear xS
        have r0 := (xB.cell huw).trans v0
        have r1 := (xB.cell huw).trans v1
        have rL : w.heap.size < W2.heap.size := Nat.lt_of_lt_of_le huw xB.size
        clear xB
        have HSx : Hid (∀ x, Below W2.heap.size W2 x → (x.cell? ⟨wr.heap.size, 0, none⟩ = some (.bool q.p.s) ∧ x.cell? ⟨wr.heap.size, 1, none⟩ = some (.int .i64 q.p.H.toInt) ∧ x.cell? ⟨wr.heap.size, 2, none⟩ = some (.int .i64 q.p.L.toInt) ∧ x.cell? ⟨wr.heap.size, 3, none⟩ = some (.int .i64 q.p.b) ∧ x.cell? ⟨wr.heap.size, 4, none⟩ = some (.string q.t) ∧ x.cell? ⟨w.heap.size, 0, none⟩ = some (.slice ap np cp) ∧ x.cell? ⟨w.heap.size, 1, none⟩ = some (.slice (some ⟨p, o, none⟩) nb cb) ∧ Below W2.heap.size W2 x)) := hidP fun x h =>
          ⟨(h.cell xL).trans x0, (h.cell xL).trans x1, (h.cell xL).trans x2, (h.cell xL).trans x3, (h.cell xL).trans x4, (h.cell rL).trans r0, (h.cell rL).trans r1, h⟩
        refine wp_region_held_drew (S := (fun x => x.cell? ⟨wr.heap.size, 0, none⟩ = some (.bool q.p.s) ∧ x.cell? ⟨wr.heap.size, 1, none⟩ = some (.int .i64 q.p.H.toInt) ∧ x.cell? ⟨wr.heap.size, 2, none⟩ = some (.int .i64 q.p.L.toInt) ∧ x.cell? ⟨wr.heap.size, 3, none⟩ = some (.int .i64 q.p.b) ∧ x.cell? ⟨wr.heap.size, 4, none⟩ = some (.string q.t) ∧ x.cell? ⟨w.heap.size, 0, none⟩ = some (.slice ap np cp) ∧ x.cell? ⟨w.heap.size, 1, none⟩ = some (.slice (some ⟨p, o, none⟩) nb cb) ∧ Below W2.heap.size W2 x)) (by kernel_rfl) ?_ (fun hHeld => ?_)
        · try dsimp only
          exact HSx.out _ ((Below.refl _ _).drew)
        refine tk 0 13 rfl ?_
        simp only [pa]
        refine tk 1 14 rfl ?_
        simp only [pa]
        refine wpAnyH_ready (rs := [2]) (by kernel_rfl) (by simp) ?_
        refine AllReadyH.cons rfl (fun K hK => ?_) AllReadyH.nil
        go_simp
        go_wp2_with (first | (go_at_call 34; refine (HOw.out _).mono ?_; rintro e w' ⟨rfl, rfl⟩))
        refine hK.out _ _ ?_ (fun hHeld => ?_)
        · try dsimp only
          exact HSx.out _ (hHeld.2.2.2.2.2.2.2)
        clear hK K
        refine tk 3 16 rfl ?_
        simp only [pa]
        refine tk 4 17 rfl ?_
        simp only [pa]
        refine sk 5 18 rfl ?_
        simp only [pa]
        refine sk 6 19 rfl ?_
        simp only [pa]
        refine sk 7 20 rfl ?_
        simp only [pa]
        refine sk 8 21 rfl ?_
        simp only [pa]
        refine sk 9 22 rfl ?_
        simp only [pa]
        refine sk 10 23 rfl ?_
        simp only [pa]
        refine tk 11 24 rfl ?_
        simp only [pa]
        refine tk 12 25 rfl ?_
        simp only [pa]
        refine sk 13 26 rfl ?_
        simp only [pa]
        refine sk 14 27 rfl ?_
        simp only [pa]
        refine sk 15 28 rfl ?_
        simp only [pa]
        refine sk 16 29 rfl ?_
        simp only [pa]
        refine sk 17 30 rfl ?_
        simp only [pa]
        refine sk 18 31 rfl ?_
        simp only [pa]
        refine sk 19 32 rfl ?_
        simp only [pa]
        refine sk 20 33 rfl ?_
        simp only [pa]
        refine sk 21 34 rfl ?_
        simp only [pa]
        refine sk 22 35 rfl ?_
        simp only [pa]
        refine sk 23 36 rfl ?_
        simp only [pa]
        refine sk 24 37 rfl ?_
        simp only [pa]
        refine sk 25 38 rfl ?_
        simp only [pa]
        refine sk 26 39 rfl ?_
        simp only [pa]
        refine sk 27 40 rfl ?_
        simp only [pa]
        refine tk 28 41 rfl ?_
        simp only [pa]
        have HE := hidP (hHeld.2.2.2.2.2.2.2)
        refine wpAnyH_done (by kernel_rfl) ?_ _
        clear hHeld
        go_wp2_with fail
        go_ret
        exact ⟨ret_b HF.out.symm, HUB.out.trans ((below_box HBel.out HBel.out.size HXB.out HE.out).mono HUB.out.size)⟩
      · rw [hok] at HOw HPo
        cases hca : carB ps q.p
        · rw [hca] at HCa HPo
          have HF : Hid (blocksI ps none bs = false) := hidP (by rw [HPo.out]; rfl)
          clear HPo HPr HNx
          go_wp2_with fail
          obtain ⟨x0, x1, x2, x3, x4⟩ := boxBk (q := q) wr 38
          have xB := alloc_below wr (.cells #[.bool q.p.s, .int .i64 q.p.H.toInt, .int .i64 q.p.L.toInt, .int .i64 q.p.b, .string q.t] 38)
          have xL := alloc_lt wr (.cells #[.bool q.p.s, .int .i64 q.p.H.toInt, .int .i64 q.p.L.toInt, .int .i64 q.p.b, .string q.t] 38)
          have xS : (wr.alloc (.cells #[.bool q.p.s, .int .i64 q.p.H.toInt, .int .i64 q.p.L.toInt, .int .i64 q.p.b, .string q.t] 38)).heap.size = wr.heap.size + 1 := by simp
          generalize wr.alloc (.cells #[.bool q.p.s, .int .i64 q.p.H.toInt, .int .i64 q.p.L.toInt, .int .i64 q.p.b, .string q.t] 38) = W2 at *
          have HXB := hidP xB
          clear xS
          have r0 := (xB.cell huw).trans v0
          have r1 := (xB.cell huw).trans v1
          have rL : w.heap.size < W2.heap.size := Nat.lt_of_lt_of_le huw xB.size
          clear xB
          have HSx : Hid (∀ x, Below W2.heap.size W2 x → (x.cell? ⟨wr.heap.size, 0, none⟩ = some (.bool q.p.s) ∧ x.cell? ⟨wr.heap.size, 1, none⟩ = some (.int .i64 q.p.H.toInt) ∧ x.cell? ⟨wr.heap.size, 2, none⟩ = some (.int .i64 q.p.L.toInt) ∧ x.cell? ⟨wr.heap.size, 3, none⟩ = some (.int .i64 q.p.b) ∧ x.cell? ⟨wr.heap.size, 4, none⟩ = some (.string q.t) ∧ x.cell? ⟨w.heap.size, 0, none⟩ = some (.slice ap np cp) ∧ x.cell? ⟨w.heap.size, 1, none⟩ = some (.slice (some ⟨p, o, none⟩) nb cb) ∧ Below W2.heap.size W2 x)) := hidP fun x h =>
            ⟨(h.cell xL).trans x0, (h.cell xL).trans x1, (h.cell xL).trans x2, (h.cell xL).trans x3, (h.cell xL).trans x4, (h.cell rL).trans r0, (h.cell rL).trans r1, h⟩
          refine wp_region_held_drew (S := (fun x => x.cell? ⟨wr.heap.size, 0, none⟩ = some (.bool q.p.s) ∧ x.cell? ⟨wr.heap.size, 1, none⟩ = some (.int .i64 q.p.H.toInt) ∧ x.cell? ⟨wr.heap.size, 2, none⟩ = some (.int .i64 q.p.L.toInt) ∧ x.cell? ⟨wr.heap.size, 3, none⟩ = some (.int .i64 q.p.b) ∧ x.cell? ⟨wr.heap.size, 4, none⟩ = some (.string q.t) ∧ x.cell? ⟨w.heap.size, 0, none⟩ = some (.slice ap np cp) ∧ x.cell? ⟨w.heap.size, 1, none⟩ = some (.slice (some ⟨p, o, none⟩) nb cb) ∧ Below W2.heap.size W2 x)) (by kernel_rfl) ?_ (fun hHeld => ?_)
          · try dsimp only
            exact HSx.out _ ((Below.refl _ _).drew)
          refine tk 0 13 rfl ?_
          simp only [pa]
          refine tk 1 14 rfl ?_
          simp only [pa]
          refine wpAnyH_ready (rs := [2]) (by kernel_rfl) (by simp) ?_
          refine AllReadyH.cons rfl (fun K hK => ?_) AllReadyH.nil
          go_simp
          go_wp2_with (first | (go_at_call 34; refine (HOw.out _).mono ?_; rintro e w' ⟨rfl, rfl⟩))
          refine hK.out _ _ ?_ (fun hHeld => ?_)
          · try dsimp only
            exact HSx.out _ (hHeld.2.2.2.2.2.2.2)
          clear hK K
          refine tk 3 16 rfl ?_
          simp only [pa]
          refine tk 4 17 rfl ?_
          simp only [pa]
          refine tk 5 18 rfl ?_
          simp only [pa]
          refine tk 6 19 rfl ?_
          simp only [pa]
          refine tk 7 20 rfl ?_
          simp only [pa]
          refine tk 8 21 rfl ?_
          simp only [pa]
          refine wpAnyH_ready (rs := [9]) (by kernel_rfl) (by simp) ?_
          refine AllReadyH.cons rfl (fun K hK => ?_) AllReadyH.nil
          go_simp
          go_wp2_with (first | (go_at_call 102; refine (HCa.out _ (below_box HBel.out HBel.out.size HXB.out (hHeld.2.2.2.2.2.2.2))).mono ?_; rintro e w2 ⟨rfl, hb2⟩; have b2 := (hHeld.2.2.2.2.2.2.2).trans (hb2.mono (hHeld.2.2.2.2.2.2.2).size)))
          refine hK.out _ _ ?_ (fun hHeld => ?_)
          · try dsimp only
            exact HSx.out _ b2
          clear hK K
          refine tk 10 23 rfl ?_
          simp only [pa]
          refine tk 11 24 rfl ?_
          simp only [pa]
          refine tk 12 25 rfl ?_
          simp only [pa]
          refine sk 13 26 rfl ?_
          simp only [pa]
          refine sk 14 27 rfl ?_
          simp only [pa]
          refine sk 15 28 rfl ?_
          simp only [pa]
          refine sk 16 29 rfl ?_
          simp only [pa]
          refine sk 17 30 rfl ?_
          simp only [pa]
          refine sk 18 31 rfl ?_
          simp only [pa]
          refine sk 19 32 rfl ?_
          simp only [pa]
          refine sk 20 33 rfl ?_
          simp only [pa]
          refine sk 21 34 rfl ?_
          simp only [pa]
          refine sk 22 35 rfl ?_
          simp only [pa]
          refine sk 23 36 rfl ?_
          simp only [pa]
          refine sk 24 37 rfl ?_
          simp only [pa]
          refine sk 25 38 rfl ?_
          simp only [pa]
          refine sk 26 39 rfl ?_
          simp only [pa]
          refine sk 27 40 rfl ?_
          simp only [pa]
          refine tk 28 41 rfl ?_
          simp only [pa]
          have HE := hidP (hHeld.2.2.2.2.2.2.2)
          refine wpAnyH_done (by kernel_rfl) ?_ _
          clear hHeld
          go_wp2_with fail
          go_ret
          exact ⟨ret_b HF.out.symm, HUB.out.trans ((below_box HBel.out HBel.out.size HXB.out HE.out).mono HUB.out.size)⟩
        · rw [hca] at HCa HPo
          have HOk := hidP hca
          have HPk := hidP (carB_pk hca)
          by_cases hk0 : k = 0
          · have g0 : decide ((0 : Int) < (k : Int)) = false := decide_eq_false (by omega)
            have g1 : decide (0 < k) = false := decide_eq_false (by omega)
            have HF : Hid (blocksI ps none bs = blocksI ps (some q.p) (bs.drop (k + 1))) := hidP (by rw [HPo.out, hk0]; rfl)
            clear HPo HPr hk0
            go_wp2_with fail
            obtain ⟨x0, x1, x2, x3, x4⟩ := boxBk (q := q) wr 38
            have xB := alloc_below wr (.cells #[.bool q.p.s, .int .i64 q.p.H.toInt, .int .i64 q.p.L.toInt, .int .i64 q.p.b, .string q.t] 38)
            have xL := alloc_lt wr (.cells #[.bool q.p.s, .int .i64 q.p.H.toInt, .int .i64 q.p.L.toInt, .int .i64 q.p.b, .string q.t] 38)
            have xS : (wr.alloc (.cells #[.bool q.p.s, .int .i64 q.p.H.toInt, .int .i64 q.p.L.toInt, .int .i64 q.p.b, .string q.t] 38)).heap.size = wr.heap.size + 1 := by simp
            generalize wr.alloc (.cells #[.bool q.p.s, .int .i64 q.p.H.toInt, .int .i64 q.p.L.toInt, .int .i64 q.p.b, .string q.t] 38) = W2 at *
            have HXB := hidP xB
            clear xS
            have r0 := (xB.cell huw).trans v0
            have r1 := (xB.cell huw).trans v1
            have rL : w.heap.size < W2.heap.size := Nat.lt_of_lt_of_le huw xB.size
            clear xB
            have HSx : Hid (∀ x, Below W2.heap.size W2 x → (x.cell? ⟨wr.heap.size, 0, none⟩ = some (.bool q.p.s) ∧ x.cell? ⟨wr.heap.size, 1, none⟩ = some (.int .i64 q.p.H.toInt) ∧ x.cell? ⟨wr.heap.size, 2, none⟩ = some (.int .i64 q.p.L.toInt) ∧ x.cell? ⟨wr.heap.size, 3, none⟩ = some (.int .i64 q.p.b) ∧ x.cell? ⟨wr.heap.size, 4, none⟩ = some (.string q.t) ∧ x.cell? ⟨w.heap.size, 0, none⟩ = some (.slice ap np cp) ∧ x.cell? ⟨w.heap.size, 1, none⟩ = some (.slice (some ⟨p, o, none⟩) nb cb) ∧ Below W2.heap.size W2 x)) := hidP fun x h =>
              ⟨(h.cell xL).trans x0, (h.cell xL).trans x1, (h.cell xL).trans x2, (h.cell xL).trans x3, (h.cell xL).trans x4, (h.cell rL).trans r0, (h.cell rL).trans r1, h⟩
            refine wp_region_held_drew (S := (fun x => x.cell? ⟨wr.heap.size, 0, none⟩ = some (.bool q.p.s) ∧ x.cell? ⟨wr.heap.size, 1, none⟩ = some (.int .i64 q.p.H.toInt) ∧ x.cell? ⟨wr.heap.size, 2, none⟩ = some (.int .i64 q.p.L.toInt) ∧ x.cell? ⟨wr.heap.size, 3, none⟩ = some (.int .i64 q.p.b) ∧ x.cell? ⟨wr.heap.size, 4, none⟩ = some (.string q.t) ∧ x.cell? ⟨w.heap.size, 0, none⟩ = some (.slice ap np cp) ∧ x.cell? ⟨w.heap.size, 1, none⟩ = some (.slice (some ⟨p, o, none⟩) nb cb) ∧ Below W2.heap.size W2 x)) (by kernel_rfl) ?_ (fun hHeld => ?_)
            · try dsimp only
              exact HSx.out _ ((Below.refl _ _).drew)
            refine tk 0 13 rfl ?_
            simp only [pa]
            refine tk 1 14 rfl ?_
            simp only [pa]
            refine wpAnyH_ready (rs := [2]) (by kernel_rfl) (by simp) ?_
            refine AllReadyH.cons rfl (fun K hK => ?_) AllReadyH.nil
            go_simp
            go_wp2_with (first | (go_at_call 34; refine (HOw.out _).mono ?_; rintro e w' ⟨rfl, rfl⟩))
            refine hK.out _ _ ?_ (fun hHeld => ?_)
            · try dsimp only
              exact HSx.out _ (hHeld.2.2.2.2.2.2.2)
            clear hK K
            refine tk 3 16 rfl ?_
            simp only [pa]
            refine tk 4 17 rfl ?_
            simp only [pa]
            refine tk 5 18 rfl ?_
            simp only [pa]
            refine tk 6 19 rfl ?_
            simp only [pa]
            refine tk 7 20 rfl ?_
            simp only [pa]
            refine tk 8 21 rfl ?_
            simp only [pa]
            refine wpAnyH_ready (rs := [9]) (by kernel_rfl) (by simp) ?_
            refine AllReadyH.cons rfl (fun K hK => ?_) AllReadyH.nil
            go_simp
            go_wp2_with (first | (go_at_call 102; refine (HCa.out _ (below_box HBel.out HBel.out.size HXB.out (hHeld.2.2.2.2.2.2.2))).mono ?_; rintro e w2 ⟨rfl, hb2⟩; have b2 := (hHeld.2.2.2.2.2.2.2).trans (hb2.mono (hHeld.2.2.2.2.2.2.2).size)))
            refine hK.out _ _ ?_ (fun hHeld => ?_)
            · try dsimp only
              exact HSx.out _ b2
            clear hK K
            refine tk 10 23 rfl ?_
            simp only [pa]
            refine tk 11 24 rfl ?_
            simp only [pa]
            refine tk 12 25 rfl ?_
            simp only [pa]
            refine tk 13 26 rfl ?_
            simp only [pa]
            refine tk 14 27 rfl ?_
            simp only [pa]
            refine tk 15 28 rfl ?_
            simp only [pa]
            refine sk 16 29 rfl ?_
            simp only [pa]
            refine sk 17 30 rfl ?_
            simp only [pa]
            refine sk 18 31 rfl ?_
            simp only [pa]
            refine sk 19 32 rfl ?_
            simp only [pa]
            refine sk 20 33 rfl ?_
            simp only [pa]
            refine sk 21 34 rfl ?_
            simp only [pa]
            refine sk 22 35 rfl ?_
            simp only [pa]
            refine sk 23 36 rfl ?_
            simp only [pa]
            refine sk 24 37 rfl ?_
            simp only [pa]
            refine sk 25 38 rfl ?_
            simp only [pa]
            refine sk 26 39 rfl ?_
            simp only [pa]
            refine tk 27 40 rfl ?_
            simp only [pa]
            refine tk 28 41 rfl ?_
            simp only [pa]
            have HE := hidP (hHeld.2.2.2.2.2.2.2)
            refine wpAnyH_done (by kernel_rfl) ?_ _
            clear hHeld
            go_wp2_with fail
            go_roundw
            case rel => exact ⟨k + 1, by omega, by go_num, by rw [HF.out, HNx.out], (fun r h => by rw [HNx.out] at h; cases h; exact HOk.out), below_box HBel.out HBel.out.size HXB.out HE.out⟩
            case measure => simp [intOf]; omega
          · have g0 : decide ((0 : Int) < (k : Int)) = true := decide_eq_true (by omega)
            have g1 : decide (0 < k) = true := decide_eq_true (by omega)
            obtain ⟨J, hJ⟩ : ∃ J, J = k - 1 := ⟨_, rfl⟩
            have hkJ : k = J + 1 := by omega
            have hJi : (k : Int) - 1 = (J : Int) := by omega
            have hJn : J < nb := by omega
            have wJ : IntKind.i64.wrap (J : Int) = (J : Int) := by rw [IntKind.wrap_i64]; omega
            have hJ0 : (0 : Int) ≤ (J : Int) := by omega
            have hJ1 : (J : Int) < (nb : Int) := by omega
            obtain ⟨p', o', r, he, hp', hr, c0, c1, c2, c3, c4⟩ := rowBk HB1.out J (by rw [← HN.out]; exact hJn)
            simp only [Option.some.injEq, Addr.mk.injEq, and_true] at he
            obtain ⟨rfl, rfl⟩ := he
            have hprv : prvB bs k = some r.p := by rw [hkJ]; exact prvB_next hr
            have hrca : carB ps r.p = true := HPr.out _ hprv
            have HPo2 : Hid (blocksI ps none bs = (((true && true) && folB r.p q.p) && blocksI ps (some q.p) (bs.drop (k + 1)))) := hidP (by rw [HPo.out, hprv])
            have HFo := hidP (follows_any r.p q.p (carB_pk hrca) HPk.out)
            have e0 := (HBel.out.cell hp').trans c0
            have e1 := (HBel.out.cell hp').trans c1
            have e2 := (HBel.out.cell hp').trans c2
            have e3 := (HBel.out.cell hp').trans c3
            clear c0 c1 c2 c3 c4 hr hprv hrca hJ hkJ hk0 HPo HPr
            cases hfo : folB r.p q.p
            · rw [hfo] at HPo2 HFo
              have HF : Hid (blocksI ps none bs = false) := hidP (by rw [HPo2.out]; rfl)
              clear HPo2
              go_wp2_with fail
              obtain ⟨x0, x1, x2, x3, x4⟩ := boxBk (q := q) wr 38
              have xB := alloc_below wr (.cells #[.bool q.p.s, .int .i64 q.p.H.toInt, .int .i64 q.p.L.toInt, .int .i64 q.p.b, .string q.t] 38)
              have xL := alloc_lt wr (.cells #[.bool q.p.s, .int .i64 q.p.H.toInt, .int .i64 q.p.L.toInt, .int .i64 q.p.b, .string q.t] 38)
              have xS : (wr.alloc (.cells #[.bool q.p.s, .int .i64 q.p.H.toInt, .int .i64 q.p.L.toInt, .int .i64 q.p.b, .string q.t] 38)).heap.size = wr.heap.size + 1 := by simp
              generalize wr.alloc (.cells #[.bool q.p.s, .int .i64 q.p.H.toInt, .int .i64 q.p.L.toInt, .int .i64 q.p.b, .string q.t] 38) = W2 at *
              have HXB := hidP xB
              clear xS
              have r0 := (xB.cell huw).trans v0
              have r1 := (xB.cell huw).trans v1
              have rL : w.heap.size < W2.heap.size := Nat.lt_of_lt_of_le huw xB.size
              have y0 := (xB.cell hpw).trans e0
              have y1 := (xB.cell hpw).trans e1
              have y2 := (xB.cell hpw).trans e2
              have y3 := (xB.cell hpw).trans e3
              have yL : p < W2.heap.size := Nat.lt_of_lt_of_le hpw xB.size
              clear xB
              have HSx : Hid (∀ x, Below W2.heap.size W2 x → (x.cell? ⟨wr.heap.size, 0, none⟩ = some (.bool q.p.s) ∧ x.cell? ⟨wr.heap.size, 1, none⟩ = some (.int .i64 q.p.H.toInt) ∧ x.cell? ⟨wr.heap.size, 2, none⟩ = some (.int .i64 q.p.L.toInt) ∧ x.cell? ⟨wr.heap.size, 3, none⟩ = some (.int .i64 q.p.b) ∧ x.cell? ⟨wr.heap.size, 4, none⟩ = some (.string q.t) ∧ x.cell? ⟨w.heap.size, 0, none⟩ = some (.slice ap np cp) ∧ x.cell? ⟨w.heap.size, 1, none⟩ = some (.slice (some ⟨p, o, none⟩) nb cb) ∧ x.cell? ⟨p, o + J * 5, none⟩ = some (.bool r.p.s) ∧ x.cell? ⟨p, o + J * 5 + 1, none⟩ = some (.int .i64 r.p.H.toInt) ∧ x.cell? ⟨p, o + J * 5 + 2, none⟩ = some (.int .i64 r.p.L.toInt) ∧ x.cell? ⟨p, o + J * 5 + 3, none⟩ = some (.int .i64 r.p.b) ∧ Below W2.heap.size W2 x)) := hidP fun x h =>
                ⟨(h.cell xL).trans x0, (h.cell xL).trans x1, (h.cell xL).trans x2, (h.cell xL).trans x3, (h.cell xL).trans x4, (h.cell rL).trans r0, (h.cell rL).trans r1, (h.cell yL).trans y0, (h.cell yL).trans y1, (h.cell yL).trans y2, (h.cell yL).trans y3, h⟩
              refine wp_region_held_drew (S := (fun x => x.cell? ⟨wr.heap.size, 0, none⟩ = some (.bool q.p.s) ∧ x.cell? ⟨wr.heap.size, 1, none⟩ = some (.int .i64 q.p.H.toInt) ∧ x.cell? ⟨wr.heap.size, 2, none⟩ = some (.int .i64 q.p.L.toInt) ∧ x.cell? ⟨wr.heap.size, 3, none⟩ = some (.int .i64 q.p.b) ∧ x.cell? ⟨wr.heap.size, 4, none⟩ = some (.string q.t) ∧ x.cell? ⟨w.heap.size, 0, none⟩ = some (.slice ap np cp) ∧ x.cell? ⟨w.heap.size, 1, none⟩ = some (.slice (some ⟨p, o, none⟩) nb cb) ∧ x.cell? ⟨p, o + J * 5, none⟩ = some (.bool r.p.s) ∧ x.cell? ⟨p, o + J * 5 + 1, none⟩ = some (.int .i64 r.p.H.toInt) ∧ x.cell? ⟨p, o + J * 5 + 2, none⟩ = some (.int .i64 r.p.L.toInt) ∧ x.cell? ⟨p, o + J * 5 + 3, none⟩ = some (.int .i64 r.p.b) ∧ Below W2.heap.size W2 x)) (by kernel_rfl) ?_ (fun hHeld => ?_)
              · try dsimp only
                exact HSx.out _ ((Below.refl _ _).drew)
              refine tk 0 13 rfl ?_
              simp only [pa]
              refine tk 1 14 rfl ?_
              simp only [pa]
              refine wpAnyH_ready (rs := [2]) (by kernel_rfl) (by simp) ?_
              refine AllReadyH.cons rfl (fun K hK => ?_) AllReadyH.nil
              go_simp
              go_wp2_with (first | (go_at_call 34; refine (HOw.out _).mono ?_; rintro e w' ⟨rfl, rfl⟩))
              refine hK.out _ _ ?_ (fun hHeld => ?_)
              · try dsimp only
                exact HSx.out _ (hHeld.2.2.2.2.2.2.2.2.2.2.2)
              clear hK K
              refine tk 3 16 rfl ?_
              simp only [pa]
              refine tk 4 17 rfl ?_
              simp only [pa]
              refine tk 5 18 rfl ?_
              simp only [pa]
              refine tk 6 19 rfl ?_
              simp only [pa]
              refine tk 7 20 rfl ?_
              simp only [pa]
              refine tk 8 21 rfl ?_
              simp only [pa]
              refine wpAnyH_ready (rs := [9]) (by kernel_rfl) (by simp) ?_
              refine AllReadyH.cons rfl (fun K hK => ?_) AllReadyH.nil
              go_simp
              go_wp2_with (first | (go_at_call 102; refine (HCa.out _ (below_box HBel.out HBel.out.size HXB.out (hHeld.2.2.2.2.2.2.2.2.2.2.2))).mono ?_; rintro e w2 ⟨rfl, hb2⟩; have b2 := (hHeld.2.2.2.2.2.2.2.2.2.2.2).trans (hb2.mono (hHeld.2.2.2.2.2.2.2.2.2.2.2).size)))
              refine hK.out _ _ ?_ (fun hHeld => ?_)
              · try dsimp only
                exact HSx.out _ b2
              clear hK K
              refine tk 10 23 rfl ?_
              simp only [pa]
              refine tk 11 24 rfl ?_
              simp only [pa]
              refine tk 12 25 rfl ?_
              simp only [pa]
              refine tk 13 26 rfl ?_
              simp only [pa]
              refine tk 14 27 rfl ?_
              simp only [pa]
              refine tk 15 28 rfl ?_
              simp only [pa]
              refine tk 16 29 rfl ?_
              simp only [pa]
              refine tk 17 30 rfl ?_
              simp only [pa]
              refine tk 18 31 rfl ?_
              simp only [pa]
              refine tk 19 32 rfl ?_
              simp only [pa]
              refine tk 20 33 rfl ?_
              simp only [pa]
              refine tk 21 34 rfl ?_
              simp only [pa]
              refine tk 22 35 rfl ?_
              simp only [pa]
              refine tk 23 36 rfl ?_
              simp only [pa]
              refine tk 24 37 rfl ?_
              simp only [pa]
              refine wpAnyH_ready (rs := [25]) (by kernel_rfl) (by simp) ?_
              refine AllReadyH.cons rfl (fun K hK => ?_) AllReadyH.nil
              go_simp
              go_wp2_with (first | (go_at_call 101; refine (HFo.out _).mono ?_; rintro e w3 ⟨rfl, hb3⟩; have b3 := (hHeld.2.2.2.2.2.2.2.2.2.2.2).trans (hb3.mono (hHeld.2.2.2.2.2.2.2.2.2.2.2).size)))
              refine hK.out _ _ ?_ (fun hHeld => ?_)
              · try dsimp only
                exact HSx.out _ b3
              clear hK K
              refine tk 26 39 rfl ?_
              simp only [pa]
              refine tk 27 40 rfl ?_
              simp only [pa]
              refine tk 28 41 rfl ?_
              simp only [pa]
              have HE := hidP (hHeld.2.2.2.2.2.2.2.2.2.2.2)
              refine wpAnyH_done (by kernel_rfl) ?_ _
              clear hHeld
              go_wp2_with fail
              go_ret
              exact ⟨ret_b HF.out.symm, HUB.out.trans ((below_box HBel.out HBel.out.size HXB.out HE.out).mono HUB.out.size)⟩
            · rw [hfo] at HPo2 HFo
              have HF : Hid (blocksI ps none bs = blocksI ps (some q.p) (bs.drop (k + 1))) := hidP (by rw [HPo2.out]; rfl)
              clear HPo2
              go_wp2_with fail
              obtain ⟨x0, x1, x2, x3, x4⟩ := boxBk (q := q) wr 38
              have xB := alloc_below wr (.cells #[.bool q.p.s, .int .i64 q.p.H.toInt, .int .i64 q.p.L.toInt, .int .i64 q.p.b, .string q.t] 38)
              have xL := alloc_lt wr (.cells #[.bool q.p.s, .int .i64 q.p.H.toInt, .int .i64 q.p.L.toInt, .int .i64 q.p.b, .string q.t] 38)
              have xS : (wr.alloc (.cells #[.bool q.p.s, .int .i64 q.p.H.toInt, .int .i64 q.p.L.toInt, .int .i64 q.p.b, .string q.t] 38)).heap.size = wr.heap.size + 1 := by simp
              generalize wr.alloc (.cells #[.bool q.p.s, .int .i64 q.p.H.toInt, .int .i64 q.p.L.toInt, .int .i64 q.p.b, .string q.t] 38) = W2 at *
              have HXB := hidP xB
              clear xS
              have r0 := (xB.cell huw).trans v0
              have r1 := (xB.cell huw).trans v1
              have rL : w.heap.size < W2.heap.size := Nat.lt_of_lt_of_le huw xB.size
              have y0 := (xB.cell hpw).trans e0
              have y1 := (xB.cell hpw).trans e1
              have y2 := (xB.cell hpw).trans e2
              have y3 := (xB.cell hpw).trans e3
              have yL : p < W2.heap.size := Nat.lt_of_lt_of_le hpw xB.size
              clear xB
              have HSx : Hid (∀ x, Below W2.heap.size W2 x → (x.cell? ⟨wr.heap.size, 0, none⟩ = some (.bool q.p.s) ∧ x.cell? ⟨wr.heap.size, 1, none⟩ = some (.int .i64 q.p.H.toInt) ∧ x.cell? ⟨wr.heap.size, 2, none⟩ = some (.int .i64 q.p.L.toInt) ∧ x.cell? ⟨wr.heap.size, 3, none⟩ = some (.int .i64 q.p.b) ∧ x.cell? ⟨wr.heap.size, 4, none⟩ = some (.string q.t) ∧ x.cell? ⟨w.heap.size, 0, none⟩ = some (.slice ap np cp) ∧ x.cell? ⟨w.heap.size, 1, none⟩ = some (.slice (some ⟨p, o, none⟩) nb cb) ∧ x.cell? ⟨p, o + J * 5, none⟩ = some (.bool r.p.s) ∧ x.cell? ⟨p, o + J * 5 + 1, none⟩ = some (.int .i64 r.p.H.toInt) ∧ x.cell? ⟨p, o + J * 5 + 2, none⟩ = some (.int .i64 r.p.L.toInt) ∧ x.cell? ⟨p, o + J * 5 + 3, none⟩ = some (.int .i64 r.p.b) ∧ Below W2.heap.size W2 x)) := hidP fun x h =>
                ⟨(h.cell xL).trans x0, (h.cell xL).trans x1, (h.cell xL).trans x2, (h.cell xL).trans x3, (h.cell xL).trans x4, (h.cell rL).trans r0, (h.cell rL).trans r1, (h.cell yL).trans y0, (h.cell yL).trans y1, (h.cell yL).trans y2, (h.cell yL).trans y3, h⟩
              refine wp_region_held_drew (S := (fun x => x.cell? ⟨wr.heap.size, 0, none⟩ = some (.bool q.p.s) ∧ x.cell? ⟨wr.heap.size, 1, none⟩ = some (.int .i64 q.p.H.toInt) ∧ x.cell? ⟨wr.heap.size, 2, none⟩ = some (.int .i64 q.p.L.toInt) ∧ x.cell? ⟨wr.heap.size, 3, none⟩ = some (.int .i64 q.p.b) ∧ x.cell? ⟨wr.heap.size, 4, none⟩ = some (.string q.t) ∧ x.cell? ⟨w.heap.size, 0, none⟩ = some (.slice ap np cp) ∧ x.cell? ⟨w.heap.size, 1, none⟩ = some (.slice (some ⟨p, o, none⟩) nb cb) ∧ x.cell? ⟨p, o + J * 5, none⟩ = some (.bool r.p.s) ∧ x.cell? ⟨p, o + J * 5 + 1, none⟩ = some (.int .i64 r.p.H.toInt) ∧ x.cell? ⟨p, o + J * 5 + 2, none⟩ = some (.int .i64 r.p.L.toInt) ∧ x.cell? ⟨p, o + J * 5 + 3, none⟩ = some (.int .i64 r.p.b) ∧ Below W2.heap.size W2 x)) (by kernel_rfl) ?_ (fun hHeld => ?_)
              · try dsimp only
                exact HSx.out _ ((Below.refl _ _).drew)
              refine tk 0 13 rfl ?_
              simp only [pa]
              refine tk 1 14 rfl ?_
              simp only [pa]
              refine wpAnyH_ready (rs := [2]) (by kernel_rfl) (by simp) ?_
              refine AllReadyH.cons rfl (fun K hK => ?_) AllReadyH.nil
              go_simp
              go_wp2_with (first | (go_at_call 34; refine (HOw.out _).mono ?_; rintro e w' ⟨rfl, rfl⟩))
              refine hK.out _ _ ?_ (fun hHeld => ?_)
              · try dsimp only
                exact HSx.out _ (hHeld.2.2.2.2.2.2.2.2.2.2.2)
              clear hK K
              refine tk 3 16 rfl ?_
              simp only [pa]
              refine tk 4 17 rfl ?_
              simp only [pa]
              refine tk 5 18 rfl ?_
              simp only [pa]
              refine tk 6 19 rfl ?_
              simp only [pa]
              refine tk 7 20 rfl ?_
              simp only [pa]
              refine tk 8 21 rfl ?_
              simp only [pa]
              refine wpAnyH_ready (rs := [9]) (by kernel_rfl) (by simp) ?_
              refine AllReadyH.cons rfl (fun K hK => ?_) AllReadyH.nil
              go_simp
              go_wp2_with (first | (go_at_call 102; refine (HCa.out _ (below_box HBel.out HBel.out.size HXB.out (hHeld.2.2.2.2.2.2.2.2.2.2.2))).mono ?_; rintro e w2 ⟨rfl, hb2⟩; have b2 := (hHeld.2.2.2.2.2.2.2.2.2.2.2).trans (hb2.mono (hHeld.2.2.2.2.2.2.2.2.2.2.2).size)))
              refine hK.out _ _ ?_ (fun hHeld => ?_)
              · try dsimp only
                exact HSx.out _ b2
              clear hK K
              refine tk 10 23 rfl ?_
              simp only [pa]
              refine tk 11 24 rfl ?_
              simp only [pa]
              refine tk 12 25 rfl ?_
              simp only [pa]
              refine tk 13 26 rfl ?_
              simp only [pa]
              refine tk 14 27 rfl ?_
              simp only [pa]
              refine tk 15 28 rfl ?_
              simp only [pa]
              refine tk 16 29 rfl ?_
              simp only [pa]
              refine tk 17 30 rfl ?_
              simp only [pa]
              refine tk 18 31 rfl ?_
              simp only [pa]
              refine tk 19 32 rfl ?_
              simp only [pa]
              refine tk 20 33 rfl ?_
              simp only [pa]
              refine tk 21 34 rfl ?_
              simp only [pa]
              refine tk 22 35 rfl ?_
              simp only [pa]
              refine tk 23 36 rfl ?_
              simp only [pa]
              refine tk 24 37 rfl ?_
              simp only [pa]
              refine wpAnyH_ready (rs := [25]) (by kernel_rfl) (by simp) ?_
              refine AllReadyH.cons rfl (fun K hK => ?_) AllReadyH.nil
              go_simp
              go_wp2_with (first | (go_at_call 101; refine (HFo.out _).mono ?_; rintro e w3 ⟨rfl, hb3⟩; have b3 := (hHeld.2.2.2.2.2.2.2.2.2.2.2).trans (hb3.mono (hHeld.2.2.2.2.2.2.2.2.2.2.2).size)))
              refine hK.out _ _ ?_ (fun hHeld => ?_)
              · try dsimp only
                exact HSx.out _ b3
              clear hK K
              refine tk 26 39 rfl ?_
              simp only [pa]
              refine tk 27 40 rfl ?_
              simp only [pa]
              refine tk 28 41 rfl ?_
              simp only [pa]
              have HE := hidP (hHeld.2.2.2.2.2.2.2.2.2.2.2)
              refine wpAnyH_done (by kernel_rfl) ?_ _
              clear hHeld
              go_wp2_with fail
              go_roundw
              case rel => exact ⟨k + 1, by omega, by go_num, by rw [HF.out, HNx.out], (fun r h => by rw [HNx.out] at h; cases h; exact HOk.out), below_box HBel.out HBel.out.size HXB.out HE.out⟩
              case measure => simp [intOf]; omega
    · have HF : Hid (blocksI ps none bs = true) := by
        rw [List.drop_of_length_le (by have := HN.out; omega)] at hpo
        exact hidP hpo
      have HBel := hidP hbel
      clear hbel hpo hpr
      go_wp2_with fail
      go_ret
      exact ⟨ret_b HF.out.symm, HUB.out.trans (HBel.out.mono HUB.out.size)⟩

end Go.Proofs.YtdbcdichmmcnbaaGreat
