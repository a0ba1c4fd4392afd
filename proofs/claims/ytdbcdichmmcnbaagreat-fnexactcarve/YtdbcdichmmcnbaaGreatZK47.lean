/-
  The specification's PlanOk.
-/
import Derived.Test.YtdbcdichmmcnbaaGreatZK35
import Derived.Test.YtdbcdichmmcnbaaGreatZK46
import Derived.Test.YtdbcdichmmcnbaaGreatZK1
namespace Go.Proofs.YtdbcdichmmcnbaaGreat
open Go.RowKit

theorem lpF_lt (p : Pf) : ∀ (ps : List Pl) (i : Nat), lpF p i ps = -1 ∨ ∃ j q, lpF p i ps = ((i + j : Nat) : Int) ∧ ps[j]? = some q
  | [], _ => Or.inl rfl
  | q :: t, i => by
      unfold lpF
      by_cases h : winP p q.p = true
      · rw [if_pos h]; exact Or.inr ⟨0, q, rfl, rfl⟩
      · rw [if_neg h]
        rcases lpF_lt p t (i + 1) with h' | ⟨j, x, h1, h2⟩
        · exact Or.inl h'
        · refine Or.inr ⟨j + 1, x, ?_, by simpa using h2⟩
          rw [show ((i : Int) + 1) = ((i + 1 : Nat) : Int) by omega, h1]
          congr 1; omega
theorem folB_split {p q : Pf} : folB p q = (decide (cmpP p q < 0) && !ovP p q) := rfl
theorem ge_not {x : Int} {b : Bool} (h : decide (x < 0) = b) : decide (0 ≤ x) = !b := by subst h; rw [← decide_not]; exact decide_eq_decide.mpr (by omega)

set_option maxRecDepth 10000 in
set_option maxHeartbeats 16000000 in
theorem sPlanOk_core (ap : Option Addr) (np cp : Nat) (ab : Option Addr) (nb cb : Nat) (ps : List Pl) (bs : List Bk) (w : World) (hnp : np = ps.length) (hnb : nb = bs.length) (hP : RowG KPl w ap ps) (hK : RowG KBk w ab bs) (hlp : np ≤ 20) (hl : nb ≤ 60) (hst : ∀ q ∈ bs, q.t.size ≤ 9223372036854775807) :
    Calls Tryz.prog 41 #[.agg #[.slice ap np cp, .slice ab nb cb]] w fun e w' => e = .returned (.bool (poolsF none ps && blocksS ps none bs)) ∧ Below w.heap.size w w' := by
  have HBP := hidP hP
  have HBB := hidP hK
  have HNP := hidP hnp
  have HNB := hidP hnb
  have HST := hidP hst
  clear hP hK hnp hnb hst
  go_enter Tryz.func41, Tryz.ntmps41
  go_wp2_with fail
  obtain ⟨u0, u1⟩ := box2 (u := .slice ap np cp) (v := .slice ab nb cb) w 27
  have uB := alloc_below w (.cells #[.slice ap np cp, .slice ab nb cb] 27)
  have uL := alloc_lt w (.cells #[.slice ap np cp, .slice ab nb cb] 27)
  have uS : (w.alloc (.cells #[.slice ap np cp, .slice ab nb cb] 27)).heap.size = w.heap.size + 1 := by simp
  generalize w.alloc (.cells #[.slice ap np cp, .slice ab nb cb] 27) = W1 at *
  have HUB := hidP uB
  have HP1 := hidP (HBP.out.later uB)
  have HB1 := hidP (HBB.out.later uB)
  clear uB uS HBP HBB
  go_loopw [3] (fun t3 wr => ∃ k : Nat, k ≤ np ∧ t3 = .int .i64 k ∧ poolsF none ps = poolsF (prvP ps k) (ps.drop k) ∧ (∀ r, prvP ps k = some r → r.pk = true) ∧ Below W1.heap.size W1 wr) (fun t3 _ => np - (intOf t3).toNat)
  case atStart => exact ⟨0, Nat.zero_le _, rfl, rfl, (fun r h => by cases h), Below.refl _ _⟩
  case round =>
    obtain ⟨k, hk, rfl, hpo, hpr, hbel⟩ := hrel
    have v0 := (hbel.cell uL).trans u0
    have v1 := (hbel.cell uL).trans u1
    have vL : w.heap.size < wr.heap.size := Nat.lt_of_lt_of_le uL hbel.size
    by_cases hlt : k < np
    · obtain ⟨p, o, q, rfl, hp, hq, c0, c1, c2, c3, c4⟩ := rowPl HP1.out k (by rw [← HNP.out]; exact hlt)
      have d0 := (hbel.cell hp).trans c0
      have d1 := (hbel.cell hp).trans c1
      have d2 := (hbel.cell hp).trans c2
      have d3 := (hbel.cell hp).trans c3
      have d4 := (hbel.cell hp).trans c4
      have dL : p < wr.heap.size := Nat.lt_of_lt_of_le hp hbel.size
      rw [drop_at hq] at hpo
      have hpo' : poolsF none ps = ((okPl q && (match prvP ps k with | none => true | some r => folB r q.p)) && poolsF (some q.p) (ps.drop (k + 1))) := hpo
      have HNx := hidP (prvP_next hq)
      have HPo := hidP hpo'
      have HPr := hidP hpr
      have HBel := hidP hbel
      have HQ1 := hidP (sPoolOk_any q)
      clear c0 c1 c2 c3 c4 hq hpo hpo' hpr hbel
      cases hok : okPl q
      · rw [hok] at HQ1 HPo
        have HF : Hid ((poolsF none ps && blocksS ps none bs) = false) := hidP (by rw [HPo.out]; rfl)
        clear HPo HPr HNx
        go_wp2_with fail
        have HSx : Hid (∀ x, Below wr.heap.size wr x → (x.cell? ⟨w.heap.size, 0, none⟩ = some (.slice (some ⟨p, o, none⟩) np cp) ∧ x.cell? ⟨p, o + k * 5, none⟩ = some (.bool q.p.s) ∧ x.cell? ⟨p, o + k * 5 + 1, none⟩ = some (.int .i64 q.p.H.toInt) ∧ x.cell? ⟨p, o + k * 5 + 2, none⟩ = some (.int .i64 q.p.L.toInt) ∧ x.cell? ⟨p, o + k * 5 + 3, none⟩ = some (.int .i64 q.p.b) ∧ x.cell? ⟨p, o + k * 5 + 4, none⟩ = some (.int .i64 q.n) ∧ Below wr.heap.size wr x)) := hidP fun x h =>
          ⟨(h.cell vL).trans v0, (h.cell dL).trans d0, (h.cell dL).trans d1, (h.cell dL).trans d2, (h.cell dL).trans d3, (h.cell dL).trans d4, h⟩
        refine wp_region_held_drew (S := (fun x => x.cell? ⟨w.heap.size, 0, none⟩ = some (.slice (some ⟨p, o, none⟩) np cp) ∧ x.cell? ⟨p, o + k * 5, none⟩ = some (.bool q.p.s) ∧ x.cell? ⟨p, o + k * 5 + 1, none⟩ = some (.int .i64 q.p.H.toInt) ∧ x.cell? ⟨p, o + k * 5 + 2, none⟩ = some (.int .i64 q.p.L.toInt) ∧ x.cell? ⟨p, o + k * 5 + 3, none⟩ = some (.int .i64 q.p.b) ∧ x.cell? ⟨p, o + k * 5 + 4, none⟩ = some (.int .i64 q.n) ∧ Below wr.heap.size wr x)) (by kernel_rfl) ?_ (fun hHeld => ?_)
        · try dsimp only
          exact HSx.out _ (Below.refl _ _).drew
        refine tk 0 24 rfl ?_
        simp only [pa]
        refine tk 1 25 rfl ?_
        simp only [pa]
        refine tk 2 26 rfl ?_
        simp only [pa]
        refine tk 3 27 rfl ?_
        simp only [pa]
        refine tk 4 28 rfl ?_
        simp only [pa]
        refine wpAnyH_ready (rs := [5]) (by kernel_rfl) (by simp) ?_
        refine AllReadyH.cons rfl (fun K hK => ?_) AllReadyH.nil
        go_simp
        go_wp2_with (first | (go_at_call 62; refine (HQ1.out _).mono ?_; rintro e w2 ⟨rfl, hb2⟩; have b2 := (hHeld.2.2.2.2.2.2).trans (hb2.mono (hHeld.2.2.2.2.2.2).size)))
        refine hK.out _ _ ?_ (fun hHeld => ?_)
        · try dsimp only
          exact HSx.out _ b2
        clear hK K
        refine tk 6 30 rfl ?_
        simp only [pa]
        refine tk 7 31 rfl ?_
        simp only [pa]
        refine sk 8 32 rfl ?_
        simp only [pa]
        refine sk 9 33 rfl ?_
        simp only [pa]
        refine sk 10 34 rfl ?_
        simp only [pa]
        refine sk 11 35 rfl ?_
        simp only [pa]
        refine sk 12 36 rfl ?_
        simp only [pa]
        refine sk 13 37 rfl ?_
        simp only [pa]
        refine sk 14 38 rfl ?_
        simp only [pa]
        refine sk 15 39 rfl ?_
        simp only [pa]
        refine sk 16 40 rfl ?_
        simp only [pa]
        refine sk 17 41 rfl ?_
        simp only [pa]
        refine sk 18 42 rfl ?_
        simp only [pa]
        refine sk 19 43 rfl ?_
        simp only [pa]
        refine sk 20 44 rfl ?_
        simp only [pa]
        refine sk 21 45 rfl ?_
        simp only [pa]
        refine sk 22 46 rfl ?_
        simp only [pa]
        refine sk 23 47 rfl ?_
        simp only [pa]
        refine sk 24 48 rfl ?_
        simp only [pa]
        refine sk 25 49 rfl ?_
        simp only [pa]
        refine sk 26 50 rfl ?_
        simp only [pa]
        refine sk 27 51 rfl ?_
        simp only [pa]
        refine sk 28 52 rfl ?_
        simp only [pa]
        refine sk 29 53 rfl ?_
        simp only [pa]
        refine sk 30 54 rfl ?_
        simp only [pa]
        refine sk 31 55 rfl ?_
        simp only [pa]
        refine sk 32 56 rfl ?_
        simp only [pa]
        refine sk 33 57 rfl ?_
        simp only [pa]
        refine sk 34 58 rfl ?_
        simp only [pa]
        refine sk 35 59 rfl ?_
        simp only [pa]
        refine sk 36 60 rfl ?_
        simp only [pa]
        refine sk 37 61 rfl ?_
        simp only [pa]
        refine sk 38 62 rfl ?_
        simp only [pa]
        refine sk 39 63 rfl ?_
        simp only [pa]
        refine sk 40 64 rfl ?_
        simp only [pa]
        refine sk 41 65 rfl ?_
        simp only [pa]
        refine sk 42 66 rfl ?_
        simp only [pa]
        refine tk 43 67 rfl ?_
        simp only [pa]
        have HE := hidP (hHeld.2.2.2.2.2.2)
        refine wpAnyH_done (by kernel_rfl) ?_ _
        clear hHeld
        go_wp2_with fail
        go_ret
        exact ⟨ret_b HF.out.symm, HUB.out.trans ((HBel.out.trans (HE.out.mono HBel.out.size)).mono HUB.out.size)⟩
      · rw [hok] at HQ1 HPo
        have HOk := hidP (okPl_pk hok)
        by_cases hk0 : k = 0
        · have g0 : decide ((0 : Int) < (k : Int)) = false := decide_eq_false (by omega)
          have g1 : decide (0 < k) = false := decide_eq_false (by omega)
          have HF : Hid (poolsF none ps = poolsF (some q.p) (ps.drop (k + 1))) := hidP (by rw [HPo.out, hk0]; rfl)
          clear HPo HPr hk0
          go_wp2_with fail
          have HSx : Hid (∀ x, Below wr.heap.size wr x → (x.cell? ⟨w.heap.size, 0, none⟩ = some (.slice (some ⟨p, o, none⟩) np cp) ∧ x.cell? ⟨p, o + k * 5, none⟩ = some (.bool q.p.s) ∧ x.cell? ⟨p, o + k * 5 + 1, none⟩ = some (.int .i64 q.p.H.toInt) ∧ x.cell? ⟨p, o + k * 5 + 2, none⟩ = some (.int .i64 q.p.L.toInt) ∧ x.cell? ⟨p, o + k * 5 + 3, none⟩ = some (.int .i64 q.p.b) ∧ x.cell? ⟨p, o + k * 5 + 4, none⟩ = some (.int .i64 q.n) ∧ Below wr.heap.size wr x)) := hidP fun x h =>
            ⟨(h.cell vL).trans v0, (h.cell dL).trans d0, (h.cell dL).trans d1, (h.cell dL).trans d2, (h.cell dL).trans d3, (h.cell dL).trans d4, h⟩
          refine wp_region_held_drew (S := (fun x => x.cell? ⟨w.heap.size, 0, none⟩ = some (.slice (some ⟨p, o, none⟩) np cp) ∧ x.cell? ⟨p, o + k * 5, none⟩ = some (.bool q.p.s) ∧ x.cell? ⟨p, o + k * 5 + 1, none⟩ = some (.int .i64 q.p.H.toInt) ∧ x.cell? ⟨p, o + k * 5 + 2, none⟩ = some (.int .i64 q.p.L.toInt) ∧ x.cell? ⟨p, o + k * 5 + 3, none⟩ = some (.int .i64 q.p.b) ∧ x.cell? ⟨p, o + k * 5 + 4, none⟩ = some (.int .i64 q.n) ∧ Below wr.heap.size wr x)) (by kernel_rfl) ?_ (fun hHeld => ?_)
          · try dsimp only
            exact HSx.out _ (Below.refl _ _).drew
          refine tk 0 24 rfl ?_
          simp only [pa]
          refine tk 1 25 rfl ?_
          simp only [pa]
          refine tk 2 26 rfl ?_
          simp only [pa]
          refine tk 3 27 rfl ?_
          simp only [pa]
          refine tk 4 28 rfl ?_
          simp only [pa]
          refine wpAnyH_ready (rs := [5]) (by kernel_rfl) (by simp) ?_
          refine AllReadyH.cons rfl (fun K hK => ?_) AllReadyH.nil
          go_simp
          go_wp2_with (first | (go_at_call 62; refine (HQ1.out _).mono ?_; rintro e w2 ⟨rfl, hb2⟩; have b2 := (hHeld.2.2.2.2.2.2).trans (hb2.mono (hHeld.2.2.2.2.2.2).size)))
          refine hK.out _ _ ?_ (fun hHeld => ?_)
          · try dsimp only
            exact HSx.out _ b2
          clear hK K
          refine tk 6 30 rfl ?_
          simp only [pa]
          refine tk 7 31 rfl ?_
          simp only [pa]
          refine tk 8 32 rfl ?_
          simp only [pa]
          refine tk 9 33 rfl ?_
          simp only [pa]
          refine tk 10 34 rfl ?_
          simp only [pa]
          refine sk 11 35 rfl ?_
          simp only [pa]
          refine sk 12 36 rfl ?_
          simp only [pa]
          refine sk 13 37 rfl ?_
          simp only [pa]
          refine sk 14 38 rfl ?_
          simp only [pa]
          refine sk 15 39 rfl ?_
          simp only [pa]
          refine sk 16 40 rfl ?_
          simp only [pa]
          refine sk 17 41 rfl ?_
          simp only [pa]
          refine sk 18 42 rfl ?_
          simp only [pa]
          refine sk 19 43 rfl ?_
          simp only [pa]
          refine sk 20 44 rfl ?_
          simp only [pa]
          refine sk 21 45 rfl ?_
          simp only [pa]
          refine sk 22 46 rfl ?_
          simp only [pa]
          refine sk 23 47 rfl ?_
          simp only [pa]
          refine sk 24 48 rfl ?_
          simp only [pa]
          refine sk 25 49 rfl ?_
          simp only [pa]
          refine sk 26 50 rfl ?_
          simp only [pa]
          refine sk 27 51 rfl ?_
          simp only [pa]
          refine sk 28 52 rfl ?_
          simp only [pa]
          refine sk 29 53 rfl ?_
          simp only [pa]
          refine sk 30 54 rfl ?_
          simp only [pa]
          refine sk 31 55 rfl ?_
          simp only [pa]
          refine sk 32 56 rfl ?_
          simp only [pa]
          refine sk 33 57 rfl ?_
          simp only [pa]
          refine sk 34 58 rfl ?_
          simp only [pa]
          refine sk 35 59 rfl ?_
          simp only [pa]
          refine sk 36 60 rfl ?_
          simp only [pa]
          refine sk 37 61 rfl ?_
          simp only [pa]
          refine sk 38 62 rfl ?_
          simp only [pa]
          refine sk 39 63 rfl ?_
          simp only [pa]
          refine sk 40 64 rfl ?_
          simp only [pa]
          refine sk 41 65 rfl ?_
          simp only [pa]
          refine tk 42 66 rfl ?_
          simp only [pa]
          refine tk 43 67 rfl ?_
          simp only [pa]
          have HE := hidP (hHeld.2.2.2.2.2.2)
          refine wpAnyH_done (by kernel_rfl) ?_ _
          clear hHeld
          go_wp2_with fail
          go_roundw
          case rel => exact ⟨k + 1, by omega, by go_num, by rw [HF.out, HNx.out], (fun r h => by rw [HNx.out] at h; cases h; exact HOk.out), HBel.out.trans (HE.out.mono HBel.out.size)⟩
          case measure => simp [intOf]; omega
        · have g0 : decide ((0 : Int) < (k : Int)) = true := decide_eq_true (by omega)
          have g1 : decide (0 < k) = true := decide_eq_true (by omega)
          obtain ⟨J, hJ⟩ : ∃ J, J = k - 1 := ⟨_, rfl⟩
          have hkJ : k = J + 1 := by omega
          have hJi : (k : Int) - 1 = (J : Int) := by omega
          have hJn : J < np := by omega
          have wJ : IntKind.i64.wrap (J : Int) = (J : Int) := by rw [IntKind.wrap_i64]; omega
          have hJ0 : (0 : Int) ≤ (J : Int) := by omega
          have hJ1 : (J : Int) < (np : Int) := by omega
          obtain ⟨p', o', r, he, hp', hr, c0, c1, c2, c3, c4⟩ := rowPl HP1.out J (by rw [← HNP.out]; exact hJn)
          simp only [Option.some.injEq, Addr.mk.injEq, and_true] at he
          obtain ⟨rfl, rfl⟩ := he
          have hprv : prvP ps k = some r.p := by rw [hkJ]; exact prvP_next hr
          have hrpk : r.p.pk = true := HPr.out _ hprv
          have HPo2 : Hid (poolsF none ps = ((true && folB r.p q.p) && poolsF (some q.p) (ps.drop (k + 1)))) := hidP (by rw [HPo.out, hprv])
          have HC := hidP (sCmpP r.p q.p hrpk HOk.out)
          have HO := hidP (sOverlaps_any r.p.s r.p.H r.p.L r.p.b q.p.s q.p.H q.p.L q.p.b)
          change Hid (∀ w, Calls Tryz.prog 63 _ w fun e w' => e = .returned (.bool (ovP r.p q.p)) ∧ Below w.heap.size w w') at HO
          have e0 := (HBel.out.cell hp').trans c0
          have e1 := (HBel.out.cell hp').trans c1
          have e2 := (HBel.out.cell hp').trans c2
          have e3 := (HBel.out.cell hp').trans c3
          clear c0 c1 c2 c3 c4 hr hprv hrpk hJ hkJ hk0 HPo HPr
          rw [folB_split] at HPo2
          cases hcm : decide (cmpP r.p q.p < 0)
          · have g2 := ge_not hcm
            rw [hcm] at HPo2
            have HF : Hid ((poolsF none ps && blocksS ps none bs) = false) := hidP (by rw [HPo2.out]; rfl)
            clear HPo2 hcm HO
            generalize cmpP r.p q.p = cm at *
            go_wp2_with fail
            have HSx : Hid (∀ x, Below wr.heap.size wr x → (x.cell? ⟨w.heap.size, 0, none⟩ = some (.slice (some ⟨p, o, none⟩) np cp) ∧ x.cell? ⟨p, o + k * 5, none⟩ = some (.bool q.p.s) ∧ x.cell? ⟨p, o + k * 5 + 1, none⟩ = some (.int .i64 q.p.H.toInt) ∧ x.cell? ⟨p, o + k * 5 + 2, none⟩ = some (.int .i64 q.p.L.toInt) ∧ x.cell? ⟨p, o + k * 5 + 3, none⟩ = some (.int .i64 q.p.b) ∧ x.cell? ⟨p, o + k * 5 + 4, none⟩ = some (.int .i64 q.n) ∧ x.cell? ⟨p, o + J * 5, none⟩ = some (.bool r.p.s) ∧ x.cell? ⟨p, o + J * 5 + 1, none⟩ = some (.int .i64 r.p.H.toInt) ∧ x.cell? ⟨p, o + J * 5 + 2, none⟩ = some (.int .i64 r.p.L.toInt) ∧ x.cell? ⟨p, o + J * 5 + 3, none⟩ = some (.int .i64 r.p.b) ∧ Below wr.heap.size wr x)) := hidP fun x h =>
              ⟨(h.cell vL).trans v0, (h.cell dL).trans d0, (h.cell dL).trans d1, (h.cell dL).trans d2, (h.cell dL).trans d3, (h.cell dL).trans d4, (h.cell dL).trans e0, (h.cell dL).trans e1, (h.cell dL).trans e2, (h.cell dL).trans e3, h⟩
            refine wp_region_held_drew (S := (fun x => x.cell? ⟨w.heap.size, 0, none⟩ = some (.slice (some ⟨p, o, none⟩) np cp) ∧ x.cell? ⟨p, o + k * 5, none⟩ = some (.bool q.p.s) ∧ x.cell? ⟨p, o + k * 5 + 1, none⟩ = some (.int .i64 q.p.H.toInt) ∧ x.cell? ⟨p, o + k * 5 + 2, none⟩ = some (.int .i64 q.p.L.toInt) ∧ x.cell? ⟨p, o + k * 5 + 3, none⟩ = some (.int .i64 q.p.b) ∧ x.cell? ⟨p, o + k * 5 + 4, none⟩ = some (.int .i64 q.n) ∧ x.cell? ⟨p, o + J * 5, none⟩ = some (.bool r.p.s) ∧ x.cell? ⟨p, o + J * 5 + 1, none⟩ = some (.int .i64 r.p.H.toInt) ∧ x.cell? ⟨p, o + J * 5 + 2, none⟩ = some (.int .i64 r.p.L.toInt) ∧ x.cell? ⟨p, o + J * 5 + 3, none⟩ = some (.int .i64 r.p.b) ∧ Below wr.heap.size wr x)) (by kernel_rfl) ?_ (fun hHeld => ?_)
            · try dsimp only
              exact HSx.out _ (Below.refl _ _).drew
            refine tk 0 24 rfl ?_
            simp only [pa]
            refine tk 1 25 rfl ?_
            simp only [pa]
            refine tk 2 26 rfl ?_
            simp only [pa]
            refine tk 3 27 rfl ?_
            simp only [pa]
            refine tk 4 28 rfl ?_
            simp only [pa]
            refine wpAnyH_ready (rs := [5]) (by kernel_rfl) (by simp) ?_
            refine AllReadyH.cons rfl (fun K hK => ?_) AllReadyH.nil
            go_simp
            go_wp2_with (first | (go_at_call 62; refine (HQ1.out _).mono ?_; rintro e w2 ⟨rfl, hb2⟩; have b2 := (hHeld.2.2.2.2.2.2.2.2.2.2).trans (hb2.mono (hHeld.2.2.2.2.2.2.2.2.2.2).size)))
            refine hK.out _ _ ?_ (fun hHeld => ?_)
            · try dsimp only
              exact HSx.out _ b2
            clear hK K
            refine tk 6 30 rfl ?_
            simp only [pa]
            refine tk 7 31 rfl ?_
            simp only [pa]
            refine tk 8 32 rfl ?_
            simp only [pa]
            refine tk 9 33 rfl ?_
            simp only [pa]
            refine tk 10 34 rfl ?_
            simp only [pa]
            refine tk 11 35 rfl ?_
            simp only [pa]
            refine tk 12 36 rfl ?_
            simp only [pa]
            refine tk 13 37 rfl ?_
            simp only [pa]
            refine tk 14 38 rfl ?_
            simp only [pa]
            refine tk 15 39 rfl ?_
            simp only [pa]
            refine tk 16 40 rfl ?_
            simp only [pa]
            refine tk 17 41 rfl ?_
            simp only [pa]
            refine tk 18 42 rfl ?_
            simp only [pa]
            refine tk 19 43 rfl ?_
            simp only [pa]
            refine tk 20 44 rfl ?_
            simp only [pa]
            refine tk 21 45 rfl ?_
            simp only [pa]
            refine tk 22 46 rfl ?_
            simp only [pa]
            refine tk 23 47 rfl ?_
            simp only [pa]
            refine wpAnyH_ready (rs := [24]) (by kernel_rfl) (by simp) ?_
            refine AllReadyH.cons rfl (fun K hK => ?_) AllReadyH.nil
            go_simp
            go_wp2_with (first | (go_at_call 47; refine (HC.out _).mono ?_; rintro e w3 ⟨rfl, hb3⟩; have b3 := (hHeld.2.2.2.2.2.2.2.2.2.2).trans (hb3.mono (hHeld.2.2.2.2.2.2.2.2.2.2).size)))
            refine hK.out _ _ ?_ (fun hHeld => ?_)
            · try dsimp only
              exact HSx.out _ b3
            clear hK K
            refine tk 25 49 rfl ?_
            simp only [pa]
            refine tk 26 50 rfl ?_
            simp only [pa]
            refine sk 27 51 rfl ?_
            simp only [pa]
            refine sk 28 52 rfl ?_
            simp only [pa]
            refine sk 29 53 rfl ?_
            simp only [pa]
            refine sk 30 54 rfl ?_
            simp only [pa]
            refine sk 31 55 rfl ?_
            simp only [pa]
            refine sk 32 56 rfl ?_
            simp only [pa]
            refine sk 33 57 rfl ?_
            simp only [pa]
            refine sk 34 58 rfl ?_
            simp only [pa]
            refine sk 35 59 rfl ?_
            simp only [pa]
            refine sk 36 60 rfl ?_
            simp only [pa]
            refine sk 37 61 rfl ?_
            simp only [pa]
            refine sk 38 62 rfl ?_
            simp only [pa]
            refine sk 39 63 rfl ?_
            simp only [pa]
            refine sk 40 64 rfl ?_
            simp only [pa]
            refine tk 41 65 rfl ?_
            simp only [pa]
            refine tk 42 66 rfl ?_
            simp only [pa]
            refine tk 43 67 rfl ?_
            simp only [pa]
            have HE := hidP (hHeld.2.2.2.2.2.2.2.2.2.2)
            refine wpAnyH_done (by kernel_rfl) ?_ _
            clear hHeld
            go_wp2_with fail
            go_ret
            exact ⟨ret_b HF.out.symm, HUB.out.trans ((HBel.out.trans (HE.out.mono HBel.out.size)).mono HUB.out.size)⟩
          · have g2 := ge_not hcm
            rw [hcm] at HPo2
            clear hcm
            generalize cmpP r.p q.p = cm at *
            cases hov : ovP r.p q.p
            · rw [hov] at HPo2 HO
              have HF : Hid (poolsF none ps = poolsF (some q.p) (ps.drop (k + 1))) := hidP (by rw [HPo2.out]; rfl)
              clear HPo2
              go_wp2_with fail
              have HSx : Hid (∀ x, Below wr.heap.size wr x → (x.cell? ⟨w.heap.size, 0, none⟩ = some (.slice (some ⟨p, o, none⟩) np cp) ∧ x.cell? ⟨p, o + k * 5, none⟩ = some (.bool q.p.s) ∧ x.cell? ⟨p, o + k * 5 + 1, none⟩ = some (.int .i64 q.p.H.toInt) ∧ x.cell? ⟨p, o + k * 5 + 2, none⟩ = some (.int .i64 q.p.L.toInt) ∧ x.cell? ⟨p, o + k * 5 + 3, none⟩ = some (.int .i64 q.p.b) ∧ x.cell? ⟨p, o + k * 5 + 4, none⟩ = some (.int .i64 q.n) ∧ x.cell? ⟨p, o + J * 5, none⟩ = some (.bool r.p.s) ∧ x.cell? ⟨p, o + J * 5 + 1, none⟩ = some (.int .i64 r.p.H.toInt) ∧ x.cell? ⟨p, o + J * 5 + 2, none⟩ = some (.int .i64 r.p.L.toInt) ∧ x.cell? ⟨p, o + J * 5 + 3, none⟩ = some (.int .i64 r.p.b) ∧ Below wr.heap.size wr x)) := hidP fun x h =>
                ⟨(h.cell vL).trans v0, (h.cell dL).trans d0, (h.cell dL).trans d1, (h.cell dL).trans d2, (h.cell dL).trans d3, (h.cell dL).trans d4, (h.cell dL).trans e0, (h.cell dL).trans e1, (h.cell dL).trans e2, (h.cell dL).trans e3, h⟩
              refine wp_region_held_drew (S := (fun x => x.cell? ⟨w.heap.size, 0, none⟩ = some (.slice (some ⟨p, o, none⟩) np cp) ∧ x.cell? ⟨p, o + k * 5, none⟩ = some (.bool q.p.s) ∧ x.cell? ⟨p, o + k * 5 + 1, none⟩ = some (.int .i64 q.p.H.toInt) ∧ x.cell? ⟨p, o + k * 5 + 2, none⟩ = some (.int .i64 q.p.L.toInt) ∧ x.cell? ⟨p, o + k * 5 + 3, none⟩ = some (.int .i64 q.p.b) ∧ x.cell? ⟨p, o + k * 5 + 4, none⟩ = some (.int .i64 q.n) ∧ x.cell? ⟨p, o + J * 5, none⟩ = some (.bool r.p.s) ∧ x.cell? ⟨p, o + J * 5 + 1, none⟩ = some (.int .i64 r.p.H.toInt) ∧ x.cell? ⟨p, o + J * 5 + 2, none⟩ = some (.int .i64 r.p.L.toInt) ∧ x.cell? ⟨p, o + J * 5 + 3, none⟩ = some (.int .i64 r.p.b) ∧ Below wr.heap.size wr x)) (by kernel_rfl) ?_ (fun hHeld => ?_)
              · try dsimp only
                exact HSx.out _ (Below.refl _ _).drew
              refine tk 0 24 rfl ?_
              simp only [pa]
              refine tk 1 25 rfl ?_
              simp only [pa]
              refine tk 2 26 rfl ?_
              simp only [pa]
              refine tk 3 27 rfl ?_
              simp only [pa]
              refine tk 4 28 rfl ?_
              simp only [pa]
              refine wpAnyH_ready (rs := [5]) (by kernel_rfl) (by simp) ?_
              refine AllReadyH.cons rfl (fun K hK => ?_) AllReadyH.nil
              go_simp
              go_wp2_with (first | (go_at_call 62; refine (HQ1.out _).mono ?_; rintro e w2 ⟨rfl, hb2⟩; have b2 := (hHeld.2.2.2.2.2.2.2.2.2.2).trans (hb2.mono (hHeld.2.2.2.2.2.2.2.2.2.2).size)))
              refine hK.out _ _ ?_ (fun hHeld => ?_)
              · try dsimp only
                exact HSx.out _ b2
              clear hK K
              refine tk 6 30 rfl ?_
              simp only [pa]
              refine tk 7 31 rfl ?_
              simp only [pa]
              refine tk 8 32 rfl ?_
              simp only [pa]
              refine tk 9 33 rfl ?_
              simp only [pa]
              refine tk 10 34 rfl ?_
              simp only [pa]
              refine tk 11 35 rfl ?_
              simp only [pa]
              refine tk 12 36 rfl ?_
              simp only [pa]
              refine tk 13 37 rfl ?_
              simp only [pa]
              refine tk 14 38 rfl ?_
              simp only [pa]
              refine tk 15 39 rfl ?_
              simp only [pa]
              refine tk 16 40 rfl ?_
              simp only [pa]
              refine tk 17 41 rfl ?_
              simp only [pa]
              refine tk 18 42 rfl ?_
              simp only [pa]
              refine tk 19 43 rfl ?_
              simp only [pa]
              refine tk 20 44 rfl ?_
              simp only [pa]
              refine tk 21 45 rfl ?_
              simp only [pa]
              refine tk 22 46 rfl ?_
              simp only [pa]
              refine tk 23 47 rfl ?_
              simp only [pa]
              refine wpAnyH_ready (rs := [24]) (by kernel_rfl) (by simp) ?_
              refine AllReadyH.cons rfl (fun K hK => ?_) AllReadyH.nil
              go_simp
              go_wp2_with (first | (go_at_call 47; refine (HC.out _).mono ?_; rintro e w3 ⟨rfl, hb3⟩; have b3 := (hHeld.2.2.2.2.2.2.2.2.2.2).trans (hb3.mono (hHeld.2.2.2.2.2.2.2.2.2.2).size)))
              refine hK.out _ _ ?_ (fun hHeld => ?_)
              · try dsimp only
                exact HSx.out _ b3
              clear hK K
              refine tk 25 49 rfl ?_
              simp only [pa]
              refine tk 26 50 rfl ?_
              simp only [pa]
              refine tk 27 51 rfl ?_
              simp only [pa]
              refine tk 28 52 rfl ?_
              simp only [pa]
              refine tk 29 53 rfl ?_
              simp only [pa]
              refine tk 30 54 rfl ?_
              simp only [pa]
              refine tk 31 55 rfl ?_
              simp only [pa]
              refine tk 32 56 rfl ?_
              simp only [pa]
              refine tk 33 57 rfl ?_
              simp only [pa]
              refine tk 34 58 rfl ?_
              simp only [pa]
              refine tk 35 59 rfl ?_
              simp only [pa]
              refine tk 36 60 rfl ?_
              simp only [pa]
              refine tk 37 61 rfl ?_
              simp only [pa]
              refine tk 38 62 rfl ?_
              simp only [pa]
              refine tk 39 63 rfl ?_
              simp only [pa]
              refine wpAnyH_ready (rs := [40]) (by kernel_rfl) (by simp) ?_
              refine AllReadyH.cons rfl (fun K hK => ?_) AllReadyH.nil
              go_simp
              go_wp2_with (first | (go_at_call 63; refine (HO.out _).mono ?_; rintro e w4 ⟨rfl, hb4⟩; have b4 := (hHeld.2.2.2.2.2.2.2.2.2.2).trans (hb4.mono (hHeld.2.2.2.2.2.2.2.2.2.2).size)))
              refine hK.out _ _ ?_ (fun hHeld => ?_)
              · try dsimp only
                exact HSx.out _ b4
              clear hK K
              refine tk 41 65 rfl ?_
              simp only [pa]
              refine tk 42 66 rfl ?_
              simp only [pa]
              refine tk 43 67 rfl ?_
              simp only [pa]
              have HE := hidP (hHeld.2.2.2.2.2.2.2.2.2.2)
              refine wpAnyH_done (by kernel_rfl) ?_ _
              clear hHeld
              go_wp2_with fail
              go_roundw
              case rel => exact ⟨k + 1, by omega, by go_num, by rw [HF.out, HNx.out], (fun r h => by rw [HNx.out] at h; cases h; exact HOk.out), HBel.out.trans (HE.out.mono HBel.out.size)⟩
              case measure => simp [intOf]; omega
            · rw [hov] at HPo2 HO
              have HF : Hid ((poolsF none ps && blocksS ps none bs) = false) := hidP (by rw [HPo2.out]; rfl)
              clear HPo2
              go_wp2_with fail
              have HSx : Hid (∀ x, Below wr.heap.size wr x → (x.cell? ⟨w.heap.size, 0, none⟩ = some (.slice (some ⟨p, o, none⟩) np cp) ∧ x.cell? ⟨p, o + k * 5, none⟩ = some (.bool q.p.s) ∧ x.cell? ⟨p, o + k * 5 + 1, none⟩ = some (.int .i64 q.p.H.toInt) ∧ x.cell? ⟨p, o + k * 5 + 2, none⟩ = some (.int .i64 q.p.L.toInt) ∧ x.cell? ⟨p, o + k * 5 + 3, none⟩ = some (.int .i64 q.p.b) ∧ x.cell? ⟨p, o + k * 5 + 4, none⟩ = some (.int .i64 q.n) ∧ x.cell? ⟨p, o + J * 5, none⟩ = some (.bool r.p.s) ∧ x.cell? ⟨p, o + J * 5 + 1, none⟩ = some (.int .i64 r.p.H.toInt) ∧ x.cell? ⟨p, o + J * 5 + 2, none⟩ = some (.int .i64 r.p.L.toInt) ∧ x.cell? ⟨p, o + J * 5 + 3, none⟩ = some (.int .i64 r.p.b) ∧ Below wr.heap.size wr x)) := hidP fun x h =>
                ⟨(h.cell vL).trans v0, (h.cell dL).trans d0, (h.cell dL).trans d1, (h.cell dL).trans d2, (h.cell dL).trans d3, (h.cell dL).trans d4, (h.cell dL).trans e0, (h.cell dL).trans e1, (h.cell dL).trans e2, (h.cell dL).trans e3, h⟩
              refine wp_region_held_drew (S := (fun x => x.cell? ⟨w.heap.size, 0, none⟩ = some (.slice (some ⟨p, o, none⟩) np cp) ∧ x.cell? ⟨p, o + k * 5, none⟩ = some (.bool q.p.s) ∧ x.cell? ⟨p, o + k * 5 + 1, none⟩ = some (.int .i64 q.p.H.toInt) ∧ x.cell? ⟨p, o + k * 5 + 2, none⟩ = some (.int .i64 q.p.L.toInt) ∧ x.cell? ⟨p, o + k * 5 + 3, none⟩ = some (.int .i64 q.p.b) ∧ x.cell? ⟨p, o + k * 5 + 4, none⟩ = some (.int .i64 q.n) ∧ x.cell? ⟨p, o + J * 5, none⟩ = some (.bool r.p.s) ∧ x.cell? ⟨p, o + J * 5 + 1, none⟩ = some (.int .i64 r.p.H.toInt) ∧ x.cell? ⟨p, o + J * 5 + 2, none⟩ = some (.int .i64 r.p.L.toInt) ∧ x.cell? ⟨p, o + J * 5 + 3, none⟩ = some (.int .i64 r.p.b) ∧ Below wr.heap.size wr x)) (by kernel_rfl) ?_ (fun hHeld => ?_)
              · try dsimp only
                exact HSx.out _ (Below.refl _ _).drew
              refine tk 0 24 rfl ?_
              simp only [pa]
              refine tk 1 25 rfl ?_
              simp only [pa]
              refine tk 2 26 rfl ?_
              simp only [pa]
              refine tk 3 27 rfl ?_
              simp only [pa]
              refine tk 4 28 rfl ?_
              simp only [pa]
              refine wpAnyH_ready (rs := [5]) (by kernel_rfl) (by simp) ?_
              refine AllReadyH.cons rfl (fun K hK => ?_) AllReadyH.nil
              go_simp
              go_wp2_with (first | (go_at_call 62; refine (HQ1.out _).mono ?_; rintro e w2 ⟨rfl, hb2⟩; have b2 := (hHeld.2.2.2.2.2.2.2.2.2.2).trans (hb2.mono (hHeld.2.2.2.2.2.2.2.2.2.2).size)))
              refine hK.out _ _ ?_ (fun hHeld => ?_)
              · try dsimp only
                exact HSx.out _ b2
              clear hK K
              refine tk 6 30 rfl ?_
              simp only [pa]
              refine tk 7 31 rfl ?_
              simp only [pa]
              refine tk 8 32 rfl ?_
              simp only [pa]
              refine tk 9 33 rfl ?_
              simp only [pa]
              refine tk 10 34 rfl ?_
              simp only [pa]
              refine tk 11 35 rfl ?_
              simp only [pa]
              refine tk 12 36 rfl ?_
              simp only [pa]
              refine tk 13 37 rfl ?_
              simp only [pa]
              refine tk 14 38 rfl ?_
              simp only [pa]
              refine tk 15 39 rfl ?_
              simp only [pa]
              refine tk 16 40 rfl ?_
              simp only [pa]
              refine tk 17 41 rfl ?_
              simp only [pa]
              refine tk 18 42 rfl ?_
              simp only [pa]
              refine tk 19 43 rfl ?_
              simp only [pa]
              refine tk 20 44 rfl ?_
              simp only [pa]
              refine tk 21 45 rfl ?_
              simp only [pa]
              refine tk 22 46 rfl ?_
              simp only [pa]
              refine tk 23 47 rfl ?_
              simp only [pa]
              refine wpAnyH_ready (rs := [24]) (by kernel_rfl) (by simp) ?_
              refine AllReadyH.cons rfl (fun K hK => ?_) AllReadyH.nil
              go_simp
              go_wp2_with (first | (go_at_call 47; refine (HC.out _).mono ?_; rintro e w3 ⟨rfl, hb3⟩; have b3 := (hHeld.2.2.2.2.2.2.2.2.2.2).trans (hb3.mono (hHeld.2.2.2.2.2.2.2.2.2.2).size)))
              refine hK.out _ _ ?_ (fun hHeld => ?_)
              · try dsimp only
                exact HSx.out _ b3
              clear hK K
              refine tk 25 49 rfl ?_
              simp only [pa]
              refine tk 26 50 rfl ?_
              simp only [pa]
              refine tk 27 51 rfl ?_
              simp only [pa]
              refine tk 28 52 rfl ?_
              simp only [pa]
              refine tk 29 53 rfl ?_
              simp only [pa]
              refine tk 30 54 rfl ?_
              simp only [pa]
              refine tk 31 55 rfl ?_
              simp only [pa]
              refine tk 32 56 rfl ?_
              simp only [pa]
              refine tk 33 57 rfl ?_
              simp only [pa]
              refine tk 34 58 rfl ?_
              simp only [pa]
              refine tk 35 59 rfl ?_
              simp only [pa]
              refine tk 36 60 rfl ?_
              simp only [pa]
              refine tk 37 61 rfl ?_
              simp only [pa]
              refine tk 38 62 rfl ?_
              simp only [pa]
              refine tk 39 63 rfl ?_
              simp only [pa]
              refine wpAnyH_ready (rs := [40]) (by kernel_rfl) (by simp) ?_
              refine AllReadyH.cons rfl (fun K hK => ?_) AllReadyH.nil
              go_simp
              go_wp2_with (first | (go_at_call 63; refine (HO.out _).mono ?_; rintro e w4 ⟨rfl, hb4⟩; have b4 := (hHeld.2.2.2.2.2.2.2.2.2.2).trans (hb4.mono (hHeld.2.2.2.2.2.2.2.2.2.2).size)))
              refine hK.out _ _ ?_ (fun hHeld => ?_)
              · try dsimp only
                exact HSx.out _ b4
              clear hK K
              refine tk 41 65 rfl ?_
              simp only [pa]
              refine tk 42 66 rfl ?_
              simp only [pa]
              refine tk 43 67 rfl ?_
              simp only [pa]
              have HE := hidP (hHeld.2.2.2.2.2.2.2.2.2.2)
              refine wpAnyH_done (by kernel_rfl) ?_ _
              clear hHeld
              go_wp2_with fail
              go_ret
              exact ⟨ret_b HF.out.symm, HUB.out.trans ((HBel.out.trans (HE.out.mono HBel.out.size)).mono HUB.out.size)⟩
    · have HPT : Hid (poolsF none ps = true) := by
        rw [List.drop_of_length_le (by have := HNP.out; omega)] at hpo
        exact hidP hpo
      have HBel0 := hidP hbel
      clear hbel hpo hpr
      go_wp2_with fail
      have HPW := hidP (HP1.out.later HBel0.out)
      have HBW := hidP (HB1.out.later HBel0.out)
      go_loopw [4, 5, 6] (fun t4 _ _ ws => ∃ k : Nat, k ≤ nb ∧ t4 = .int .i64 k ∧ blocksS ps none bs = blocksS ps (prvB bs k) (bs.drop k) ∧ (∀ r, prvB bs k = some r → r.pk = true) ∧ Below wr.heap.size wr ws) (fun t4 _ _ _ => nb - (intOf t4).toNat)
      case atStart => exact ⟨0, Nat.zero_le _, rfl, rfl, (fun r h => by cases h), Below.refl _ _⟩
      case round =>
        obtain ⟨i, hi, rfl, hpo, hpr, hbel⟩ := hrel
        have s0 := (hbel.cell vL).trans v0
        have s1 := (hbel.cell vL).trans v1
        have sL : w.heap.size < wr.heap.size := Nat.lt_of_lt_of_le vL hbel.size
        clear v0 v1 vL
        by_cases hlt2 : i < nb
        · obtain ⟨p, o, q, rfl, hp, hq, c0, c1, c2, c3, c4⟩ := rowBk HBW.out i (by rw [← HNB.out]; exact hlt2)
          have d0 := (hbel.cell hp).trans c0
          have d1 := (hbel.cell hp).trans c1
          have d2 := (hbel.cell hp).trans c2
          have d3 := (hbel.cell hp).trans c3
          have d4 := (hbel.cell hp).trans c4
          have dL : p < wr.heap.size := Nat.lt_of_lt_of_le hp hbel.size
          rw [drop_at hq] at hpo
          have hpo' : blocksS ps none bs = (((((q.p.pk && ownB q.t) && decide (0 ≤ lpF q.p 0 ps)) && (bitsAt ps (lpF q.p 0 ps) == q.p.b)) && (match prvB bs i with | none => true | some r => decide (cmpP r q.p < 0))) && blocksS ps (some q.p) (bs.drop (i + 1))) := hpo
          have HNx := hidP (prvB_next hq)
          have HPo := hidP hpo'
          have HPr := hidP hpr
          have HBel := hidP hbel
          have HQ1 := hidP (sPrefixOk_any q.p.s q.p.H q.p.L q.p.b)
          change Hid (∀ w, Calls Tryz.prog 42 _ w fun e w' => e = .returned (.bool q.p.pk) ∧ Below w.heap.size w w') at HQ1
          have HOw := hidP (fun w => sOwnerOk_any q.t w (HST.out q (List.mem_of_getElem? hq)))
          have HL := hidP (fun W h => l5Pool_any q.p ap np cp (some ⟨p, o, none⟩) nb cb ps W HNP.out (HPW.out.later h) (by omega))
          clear c0 c1 c2 c3 c4 hq hpo hpo' hpr hbel
          cases hpk : q.p.pk
          · rw [hpk] at HQ1 HPo
            have HF : Hid ((poolsF none ps && blocksS ps none bs) = false) := hidP (by rw [HPo.out]; simp)
            generalize lpF q.p 0 ps = K at *
            clear HPo HPr HNx HPT
            go_wp2_with fail
            obtain ⟨x0, x1, x2, x3, x4⟩ := boxBk (q := q) wr 38
            have xB := alloc_below wr (.cells #[.bool q.p.s, .int .i64 q.p.H.toInt, .int .i64 q.p.L.toInt, .int .i64 q.p.b, .string q.t] 38)
            have xL := alloc_lt wr (.cells #[.bool q.p.s, .int .i64 q.p.H.toInt, .int .i64 q.p.L.toInt, .int .i64 q.p.b, .string q.t] 38)
            have xS : (wr.alloc (.cells #[.bool q.p.s, .int .i64 q.p.H.toInt, .int .i64 q.p.L.toInt, .int .i64 q.p.b, .string q.t] 38)).heap.size = wr.heap.size + 1 := by simp
            generalize wr.alloc (.cells #[.bool q.p.s, .int .i64 q.p.H.toInt, .int .i64 q.p.L.toInt, .int .i64 q.p.b, .string q.t] 38) = W2 at *
            have n0 := (xB.cell sL).trans s0
            have n1 := (xB.cell sL).trans s1
            have nL : w.heap.size < W2.heap.size := Nat.lt_of_lt_of_le sL xB.size
            have HXB := hidP xB
            clear xS xB
            go_wp2_with fail
            refine (HL.out W2 (HBel.out.trans (HXB.out.mono HBel.out.size))).mono ?_
            rintro e w3 ⟨rfl, hb3⟩
            have x0' := (hb3.cell xL).trans x0
            have x1' := (hb3.cell xL).trans x1
            have x2' := (hb3.cell xL).trans x2
            have x3' := (hb3.cell xL).trans x3
            have x4' := (hb3.cell xL).trans x4
            have xL' : wr.heap.size < w3.heap.size := Nat.lt_of_lt_of_le xL hb3.size
            have n0' := (hb3.cell nL).trans n0
            have n1' := (hb3.cell nL).trans n1
            have nL' : w.heap.size < w3.heap.size := Nat.lt_of_lt_of_le nL hb3.size
            have HB3 := hidP hb3
            clear x0 x1 x2 x3 x4 n0 n1 hb3 d0 d1 d2 d3 d4 s0 s1
            go_wp2_with fail
            have HSx : Hid (∀ x, Below w3.heap.size w3 x → (x.cell? ⟨wr.heap.size, 0, none⟩ = some (.bool q.p.s) ∧ x.cell? ⟨wr.heap.size, 1, none⟩ = some (.int .i64 q.p.H.toInt) ∧ x.cell? ⟨wr.heap.size, 2, none⟩ = some (.int .i64 q.p.L.toInt) ∧ x.cell? ⟨wr.heap.size, 3, none⟩ = some (.int .i64 q.p.b) ∧ x.cell? ⟨wr.heap.size, 4, none⟩ = some (.string q.t) ∧ x.cell? ⟨w.heap.size, 0, none⟩ = some (.slice ap np cp) ∧ x.cell? ⟨w.heap.size, 1, none⟩ = some (.slice (some ⟨p, o, none⟩) nb cb) ∧ Below w3.heap.size w3 x)) := hidP fun x h =>
              ⟨(h.cell xL').trans x0', (h.cell xL').trans x1', (h.cell xL').trans x2', (h.cell xL').trans x3', (h.cell xL').trans x4', (h.cell nL').trans n0', (h.cell nL').trans n1', h⟩
            refine wp_region_held_drew (S := (fun x => x.cell? ⟨wr.heap.size, 0, none⟩ = some (.bool q.p.s) ∧ x.cell? ⟨wr.heap.size, 1, none⟩ = some (.int .i64 q.p.H.toInt) ∧ x.cell? ⟨wr.heap.size, 2, none⟩ = some (.int .i64 q.p.L.toInt) ∧ x.cell? ⟨wr.heap.size, 3, none⟩ = some (.int .i64 q.p.b) ∧ x.cell? ⟨wr.heap.size, 4, none⟩ = some (.string q.t) ∧ x.cell? ⟨w.heap.size, 0, none⟩ = some (.slice ap np cp) ∧ x.cell? ⟨w.heap.size, 1, none⟩ = some (.slice (some ⟨p, o, none⟩) nb cb) ∧ Below w3.heap.size w3 x)) (by kernel_rfl) ?_ (fun hHeld => ?_)
            · try dsimp only
              exact HSx.out _ (Below.refl _ _).drew
            refine tk 0 84 rfl ?_
            simp only [pa]
            refine tk 1 85 rfl ?_
            simp only [pa]
            refine wpAnyH_ready (rs := [2]) (by kernel_rfl) (by simp) ?_
            refine AllReadyH.cons rfl (fun K hK => ?_) AllReadyH.nil
            go_simp
            go_wp2_with (first | (go_at_call 42; refine (HQ1.out _).mono ?_; rintro e w5 ⟨rfl, hb5⟩; have b5 := (hHeld.2.2.2.2.2.2.2).trans (hb5.mono (hHeld.2.2.2.2.2.2.2).size)))
            refine hK.out _ _ ?_ (fun hHeld => ?_)
            · try dsimp only
              exact HSx.out _ b5
            clear hK K
            refine tk 3 87 rfl ?_
            simp only [pa]
            refine tk 4 88 rfl ?_
            simp only [pa]
            refine sk 5 89 rfl ?_
            simp only [pa]
            refine sk 6 90 rfl ?_
            simp only [pa]
            refine sk 7 91 rfl ?_
            simp only [pa]
            refine sk 8 92 rfl ?_
            simp only [pa]
            refine tk 9 93 rfl ?_
            simp only [pa]
            refine tk 10 94 rfl ?_
            simp only [pa]
            refine sk 11 95 rfl ?_
            simp only [pa]
            refine sk 12 96 rfl ?_
            simp only [pa]
            refine tk 13 97 rfl ?_
            simp only [pa]
            refine tk 14 98 rfl ?_
            simp only [pa]
            refine sk 15 99 rfl ?_
            simp only [pa]
            refine sk 16 100 rfl ?_
            simp only [pa]
            refine sk 17 101 rfl ?_
            simp only [pa]
            refine sk 18 102 rfl ?_
            simp only [pa]
            refine sk 19 103 rfl ?_
            simp only [pa]
            refine sk 20 104 rfl ?_
            simp only [pa]
            refine sk 21 105 rfl ?_
            simp only [pa]
            refine sk 22 106 rfl ?_
            simp only [pa]
            refine sk 23 107 rfl ?_
            simp only [pa]
            refine sk 24 108 rfl ?_
            simp only [pa]
            refine tk 25 109 rfl ?_
            simp only [pa]
            refine tk 26 110 rfl ?_
            simp only [pa]
            refine sk 27 111 rfl ?_
            simp only [pa]
            refine sk 28 112 rfl ?_
            simp only [pa]
            refine sk 29 113 rfl ?_
            simp only [pa]
            refine sk 30 114 rfl ?_
            simp only [pa]
            refine sk 31 115 rfl ?_
            simp only [pa]
            refine sk 32 116 rfl ?_
            simp only [pa]
            refine sk 33 117 rfl ?_
            simp only [pa]
            refine sk 34 118 rfl ?_
            simp only [pa]
            refine sk 35 119 rfl ?_
            simp only [pa]
            refine sk 36 120 rfl ?_
            simp only [pa]
            refine sk 37 121 rfl ?_
            simp only [pa]
            refine sk 38 122 rfl ?_
            simp only [pa]
            refine sk 39 123 rfl ?_
            simp only [pa]
            refine sk 40 124 rfl ?_
            simp only [pa]
            refine sk 41 125 rfl ?_
            simp only [pa]
            refine tk 42 126 rfl ?_
            simp only [pa]
            have HE := hidP (hHeld.2.2.2.2.2.2.2)
            refine wpAnyH_done (by kernel_rfl) ?_ _
            clear hHeld
            go_wp2_with fail
            go_ret
            exact ⟨ret_b HF.out.symm, HUB.out.trans ((HBel0.out.trans ((HBel.out.trans ((below_box HXB.out HXB.out.size HB3.out HE.out).mono HBel.out.size)).mono HBel0.out.size)).mono HUB.out.size)⟩
          · rw [hpk] at HQ1 HPo
            have HPk := hidP hpk
            cases how : ownB q.t
            · rw [how] at HOw HPo
              have HF : Hid ((poolsF none ps && blocksS ps none bs) = false) := hidP (by rw [HPo.out]; simp)
              generalize lpF q.p 0 ps = K at *
              clear HPo HPr HNx HPT
              go_wp2_with fail
              obtain ⟨x0, x1, x2, x3, x4⟩ := boxBk (q := q) wr 38
              have xB := alloc_below wr (.cells #[.bool q.p.s, .int .i64 q.p.H.toInt, .int .i64 q.p.L.toInt, .int .i64 q.p.b, .string q.t] 38)
              have xL := alloc_lt wr (.cells #[.bool q.p.s, .int .i64 q.p.H.toInt, .int .i64 q.p.L.toInt, .int .i64 q.p.b, .string q.t] 38)
              have xS : (wr.alloc (.cells #[.bool q.p.s, .int .i64 q.p.H.toInt, .int .i64 q.p.L.toInt, .int .i64 q.p.b, .string q.t] 38)).heap.size = wr.heap.size + 1 := by simp
              generalize wr.alloc (.cells #[.bool q.p.s, .int .i64 q.p.H.toInt, .int .i64 q.p.L.toInt, .int .i64 q.p.b, .string q.t] 38) = W2 at *
              have n0 := (xB.cell sL).trans s0
              have n1 := (xB.cell sL).trans s1
              have nL : w.heap.size < W2.heap.size := Nat.lt_of_lt_of_le sL xB.size
              have HXB := hidP xB
              clear xS xB
              go_wp2_with fail
              refine (HL.out W2 (HBel.out.trans (HXB.out.mono HBel.out.size))).mono ?_
              rintro e w3 ⟨rfl, hb3⟩
              have x0' := (hb3.cell xL).trans x0
              have x1' := (hb3.cell xL).trans x1
              have x2' := (hb3.cell xL).trans x2
              have x3' := (hb3.cell xL).trans x3
              have x4' := (hb3.cell xL).trans x4
              have xL' : wr.heap.size < w3.heap.size := Nat.lt_of_lt_of_le xL hb3.size
              have n0' := (hb3.cell nL).trans n0
              have n1' := (hb3.cell nL).trans n1
              have nL' : w.heap.size < w3.heap.size := Nat.lt_of_lt_of_le nL hb3.size
              have HB3 := hidP hb3
              clear x0 x1 x2 x3 x4 n0 n1 hb3 d0 d1 d2 d3 d4 s0 s1
              go_wp2_with fail
              have HSx : Hid (∀ x, Below w3.heap.size w3 x → (x.cell? ⟨wr.heap.size, 0, none⟩ = some (.bool q.p.s) ∧ x.cell? ⟨wr.heap.size, 1, none⟩ = some (.int .i64 q.p.H.toInt) ∧ x.cell? ⟨wr.heap.size, 2, none⟩ = some (.int .i64 q.p.L.toInt) ∧ x.cell? ⟨wr.heap.size, 3, none⟩ = some (.int .i64 q.p.b) ∧ x.cell? ⟨wr.heap.size, 4, none⟩ = some (.string q.t) ∧ x.cell? ⟨w.heap.size, 0, none⟩ = some (.slice ap np cp) ∧ x.cell? ⟨w.heap.size, 1, none⟩ = some (.slice (some ⟨p, o, none⟩) nb cb) ∧ Below w3.heap.size w3 x)) := hidP fun x h =>
                ⟨(h.cell xL').trans x0', (h.cell xL').trans x1', (h.cell xL').trans x2', (h.cell xL').trans x3', (h.cell xL').trans x4', (h.cell nL').trans n0', (h.cell nL').trans n1', h⟩
              refine wp_region_held_drew (S := (fun x => x.cell? ⟨wr.heap.size, 0, none⟩ = some (.bool q.p.s) ∧ x.cell? ⟨wr.heap.size, 1, none⟩ = some (.int .i64 q.p.H.toInt) ∧ x.cell? ⟨wr.heap.size, 2, none⟩ = some (.int .i64 q.p.L.toInt) ∧ x.cell? ⟨wr.heap.size, 3, none⟩ = some (.int .i64 q.p.b) ∧ x.cell? ⟨wr.heap.size, 4, none⟩ = some (.string q.t) ∧ x.cell? ⟨w.heap.size, 0, none⟩ = some (.slice ap np cp) ∧ x.cell? ⟨w.heap.size, 1, none⟩ = some (.slice (some ⟨p, o, none⟩) nb cb) ∧ Below w3.heap.size w3 x)) (by kernel_rfl) ?_ (fun hHeld => ?_)
              · try dsimp only
                exact HSx.out _ (Below.refl _ _).drew
              refine tk 0 84 rfl ?_
              simp only [pa]
              refine tk 1 85 rfl ?_
              simp only [pa]
              refine wpAnyH_ready (rs := [2]) (by kernel_rfl) (by simp) ?_
              refine AllReadyH.cons rfl (fun K hK => ?_) AllReadyH.nil
              go_simp
              go_wp2_with (first | (go_at_call 42; refine (HQ1.out _).mono ?_; rintro e w5 ⟨rfl, hb5⟩; have b5 := (hHeld.2.2.2.2.2.2.2).trans (hb5.mono (hHeld.2.2.2.2.2.2.2).size)))
              refine hK.out _ _ ?_ (fun hHeld => ?_)
              · try dsimp only
                exact HSx.out _ b5
              clear hK K
              refine tk 3 87 rfl ?_
              simp only [pa]
              refine tk 4 88 rfl ?_
              simp only [pa]
              refine tk 5 89 rfl ?_
              simp only [pa]
              refine tk 6 90 rfl ?_
              simp only [pa]
              refine wpAnyH_ready (rs := [7]) (by kernel_rfl) (by simp) ?_
              refine AllReadyH.cons rfl (fun K hK => ?_) AllReadyH.nil
              go_simp
              go_wp2_with (first | (go_at_call 43; refine (HOw.out _).mono ?_; rintro e w' ⟨rfl, rfl⟩))
              refine hK.out _ _ ?_ (fun hHeld => ?_)
              · try dsimp only
                exact HSx.out _ (hHeld.2.2.2.2.2.2.2)
              clear hK K
              refine tk 8 92 rfl ?_
              simp only [pa]
              refine tk 9 93 rfl ?_
              simp only [pa]
              refine tk 10 94 rfl ?_
              simp only [pa]
              refine sk 11 95 rfl ?_
              simp only [pa]
              refine sk 12 96 rfl ?_
              simp only [pa]
              refine tk 13 97 rfl ?_
              simp only [pa]
              refine tk 14 98 rfl ?_
              simp only [pa]
              refine sk 15 99 rfl ?_
              simp only [pa]
              refine sk 16 100 rfl ?_
              simp only [pa]
              refine sk 17 101 rfl ?_
              simp only [pa]
              refine sk 18 102 rfl ?_
              simp only [pa]
              refine sk 19 103 rfl ?_
              simp only [pa]
              refine sk 20 104 rfl ?_
              simp only [pa]
              refine sk 21 105 rfl ?_
              simp only [pa]
              refine sk 22 106 rfl ?_
              simp only [pa]
              refine sk 23 107 rfl ?_
              simp only [pa]
              refine sk 24 108 rfl ?_
              simp only [pa]
              refine tk 25 109 rfl ?_
              simp only [pa]
              refine tk 26 110 rfl ?_
              simp only [pa]
              refine sk 27 111 rfl ?_
              simp only [pa]
              refine sk 28 112 rfl ?_
              simp only [pa]
              refine sk 29 113 rfl ?_
              simp only [pa]
              refine sk 30 114 rfl ?_
              simp only [pa]
              refine sk 31 115 rfl ?_
              simp only [pa]
              refine sk 32 116 rfl ?_
              simp only [pa]
              refine sk 33 117 rfl ?_
              simp only [pa]
              refine sk 34 118 rfl ?_
              simp only [pa]
              refine sk 35 119 rfl ?_
              simp only [pa]
              refine sk 36 120 rfl ?_
              simp only [pa]
              refine sk 37 121 rfl ?_
              simp only [pa]
              refine sk 38 122 rfl ?_
              simp only [pa]
              refine sk 39 123 rfl ?_
              simp only [pa]
              refine sk 40 124 rfl ?_
              simp only [pa]
              refine sk 41 125 rfl ?_
              simp only [pa]
              refine tk 42 126 rfl ?_
              simp only [pa]
              have HE := hidP (hHeld.2.2.2.2.2.2.2)
              refine wpAnyH_done (by kernel_rfl) ?_ _
              clear hHeld
              go_wp2_with fail
              go_ret
              exact ⟨ret_b HF.out.symm, HUB.out.trans ((HBel0.out.trans ((HBel.out.trans ((below_box HXB.out HXB.out.size HB3.out HE.out).mono HBel.out.size)).mono HBel0.out.size)).mono HUB.out.size)⟩
            · rw [how] at HOw HPo
              rcases lpF_lt q.p ps 0 with hlp' | ⟨j, pq, hlp', hx⟩
              · have hlp0 : lpF q.p 0 ps = -1 := hlp'
                rw [hlp0] at HL HPo
                have HF : Hid ((poolsF none ps && blocksS ps none bs) = false) := hidP (by rw [HPo.out]; simp)
                clear HPo HPr HNx HPT hlp' hlp0
                go_wp2_with fail
                obtain ⟨x0, x1, x2, x3, x4⟩ := boxBk (q := q) wr 38
                have xB := alloc_below wr (.cells #[.bool q.p.s, .int .i64 q.p.H.toInt, .int .i64 q.p.L.toInt, .int .i64 q.p.b, .string q.t] 38)
                have xL := alloc_lt wr (.cells #[.bool q.p.s, .int .i64 q.p.H.toInt, .int .i64 q.p.L.toInt, .int .i64 q.p.b, .string q.t] 38)
                have xS : (wr.alloc (.cells #[.bool q.p.s, .int .i64 q.p.H.toInt, .int .i64 q.p.L.toInt, .int .i64 q.p.b, .string q.t] 38)).heap.size = wr.heap.size + 1 := by simp
                generalize wr.alloc (.cells #[.bool q.p.s, .int .i64 q.p.H.toInt, .int .i64 q.p.L.toInt, .int .i64 q.p.b, .string q.t] 38) = W2 at *
                have n0 := (xB.cell sL).trans s0
                have n1 := (xB.cell sL).trans s1
                have nL : w.heap.size < W2.heap.size := Nat.lt_of_lt_of_le sL xB.size
                have HXB := hidP xB
                clear xS xB
                go_wp2_with fail
                refine (HL.out W2 (HBel.out.trans (HXB.out.mono HBel.out.size))).mono ?_
                rintro e w3 ⟨rfl, hb3⟩
                have x0' := (hb3.cell xL).trans x0
                have x1' := (hb3.cell xL).trans x1
                have x2' := (hb3.cell xL).trans x2
                have x3' := (hb3.cell xL).trans x3
                have x4' := (hb3.cell xL).trans x4
                have xL' : wr.heap.size < w3.heap.size := Nat.lt_of_lt_of_le xL hb3.size
                have n0' := (hb3.cell nL).trans n0
                have n1' := (hb3.cell nL).trans n1
                have nL' : w.heap.size < w3.heap.size := Nat.lt_of_lt_of_le nL hb3.size
                have HB3 := hidP hb3
                clear x0 x1 x2 x3 x4 n0 n1 hb3 d0 d1 d2 d3 d4 s0 s1
                go_wp2_with fail
                have HSx : Hid (∀ x, Below w3.heap.size w3 x → (x.cell? ⟨wr.heap.size, 0, none⟩ = some (.bool q.p.s) ∧ x.cell? ⟨wr.heap.size, 1, none⟩ = some (.int .i64 q.p.H.toInt) ∧ x.cell? ⟨wr.heap.size, 2, none⟩ = some (.int .i64 q.p.L.toInt) ∧ x.cell? ⟨wr.heap.size, 3, none⟩ = some (.int .i64 q.p.b) ∧ x.cell? ⟨wr.heap.size, 4, none⟩ = some (.string q.t) ∧ x.cell? ⟨w.heap.size, 0, none⟩ = some (.slice ap np cp) ∧ x.cell? ⟨w.heap.size, 1, none⟩ = some (.slice (some ⟨p, o, none⟩) nb cb) ∧ Below w3.heap.size w3 x)) := hidP fun x h =>
                  ⟨(h.cell xL').trans x0', (h.cell xL').trans x1', (h.cell xL').trans x2', (h.cell xL').trans x3', (h.cell xL').trans x4', (h.cell nL').trans n0', (h.cell nL').trans n1', h⟩
                refine wp_region_held_drew (S := (fun x => x.cell? ⟨wr.heap.size, 0, none⟩ = some (.bool q.p.s) ∧ x.cell? ⟨wr.heap.size, 1, none⟩ = some (.int .i64 q.p.H.toInt) ∧ x.cell? ⟨wr.heap.size, 2, none⟩ = some (.int .i64 q.p.L.toInt) ∧ x.cell? ⟨wr.heap.size, 3, none⟩ = some (.int .i64 q.p.b) ∧ x.cell? ⟨wr.heap.size, 4, none⟩ = some (.string q.t) ∧ x.cell? ⟨w.heap.size, 0, none⟩ = some (.slice ap np cp) ∧ x.cell? ⟨w.heap.size, 1, none⟩ = some (.slice (some ⟨p, o, none⟩) nb cb) ∧ Below w3.heap.size w3 x)) (by kernel_rfl) ?_ (fun hHeld => ?_)
                · try dsimp only
                  exact HSx.out _ (Below.refl _ _).drew
                refine tk 0 84 rfl ?_
                simp only [pa]
                refine tk 1 85 rfl ?_
                simp only [pa]
                refine wpAnyH_ready (rs := [2]) (by kernel_rfl) (by simp) ?_
                refine AllReadyH.cons rfl (fun K hK => ?_) AllReadyH.nil
                go_simp
                go_wp2_with (first | (go_at_call 42; refine (HQ1.out _).mono ?_; rintro e w5 ⟨rfl, hb5⟩; have b5 := (hHeld.2.2.2.2.2.2.2).trans (hb5.mono (hHeld.2.2.2.2.2.2.2).size)))
                refine hK.out _ _ ?_ (fun hHeld => ?_)
                · try dsimp only
                  exact HSx.out _ b5
                clear hK K
                refine tk 3 87 rfl ?_
                simp only [pa]
                refine tk 4 88 rfl ?_
                simp only [pa]
                refine tk 5 89 rfl ?_
                simp only [pa]
                refine tk 6 90 rfl ?_
                simp only [pa]
                refine wpAnyH_ready (rs := [7]) (by kernel_rfl) (by simp) ?_
                refine AllReadyH.cons rfl (fun K hK => ?_) AllReadyH.nil
                go_simp
                go_wp2_with (first | (go_at_call 43; refine (HOw.out _).mono ?_; rintro e w' ⟨rfl, rfl⟩))
                refine hK.out _ _ ?_ (fun hHeld => ?_)
                · try dsimp only
                  exact HSx.out _ (hHeld.2.2.2.2.2.2.2)
                clear hK K
                refine tk 8 92 rfl ?_
                simp only [pa]
                refine tk 9 93 rfl ?_
                simp only [pa]
                refine tk 10 94 rfl ?_
                simp only [pa]
                refine tk 11 95 rfl ?_
                simp only [pa]
                refine tk 12 96 rfl ?_
                simp only [pa]
                refine tk 13 97 rfl ?_
                simp only [pa]
                refine tk 14 98 rfl ?_
                simp only [pa]
                refine sk 15 99 rfl ?_
                simp only [pa]
                refine sk 16 100 rfl ?_
                simp only [pa]
                refine sk 17 101 rfl ?_
                simp only [pa]
                refine sk 18 102 rfl ?_
                simp only [pa]
                refine sk 19 103 rfl ?_
                simp only [pa]
                refine sk 20 104 rfl ?_
                simp only [pa]
                refine sk 21 105 rfl ?_
                simp only [pa]
                refine sk 22 106 rfl ?_
                simp only [pa]
                refine sk 23 107 rfl ?_
                simp only [pa]
                refine sk 24 108 rfl ?_
                simp only [pa]
                refine tk 25 109 rfl ?_
                simp only [pa]
                refine tk 26 110 rfl ?_
                simp only [pa]
                refine sk 27 111 rfl ?_
                simp only [pa]
                refine sk 28 112 rfl ?_
                simp only [pa]
                refine sk 29 113 rfl ?_
                simp only [pa]
                refine sk 30 114 rfl ?_
                simp only [pa]
                refine sk 31 115 rfl ?_
                simp only [pa]
                refine sk 32 116 rfl ?_
                simp only [pa]
                refine sk 33 117 rfl ?_
                simp only [pa]
                refine sk 34 118 rfl ?_
                simp only [pa]
                refine sk 35 119 rfl ?_
                simp only [pa]
                refine sk 36 120 rfl ?_
                simp only [pa]
                refine sk 37 121 rfl ?_
                simp only [pa]
                refine sk 38 122 rfl ?_
                simp only [pa]
                refine sk 39 123 rfl ?_
                simp only [pa]
                refine sk 40 124 rfl ?_
                simp only [pa]
                refine sk 41 125 rfl ?_
                simp only [pa]
                refine tk 42 126 rfl ?_
                simp only [pa]
                have HE := hidP (hHeld.2.2.2.2.2.2.2)
                refine wpAnyH_done (by kernel_rfl) ?_ _
                clear hHeld
                go_wp2_with fail
                go_ret
                exact ⟨ret_b HF.out.symm, HUB.out.trans ((HBel0.out.trans ((HBel.out.trans ((below_box HXB.out HXB.out.size HB3.out HE.out).mono HBel.out.size)).mono HBel0.out.size)).mono HUB.out.size)⟩
              · have hlp0 : lpF q.p 0 ps = (j : Int) := by rw [Nat.zero_add] at hlp'; exact hlp'
                have hjl : j < ps.length := by
                  rcases Nat.lt_or_ge j ps.length with h' | h'
                  · exact h'
                  · rw [List.getElem?_eq_none h'] at hx; cases hx
                have hbit : bitsAt ps (lpF q.p 0 ps) = pq.n := by
                  rw [hlp0]; unfold bitsAt
                  rw [Int.toNat_natCast, List.getD_eq_getElem?_getD, hx]; rfl
                rw [hbit, hlp0] at HPo
                rw [hlp0] at HL
                have hjn : j < np := by rw [HNP.out]; exact hjl
                have wj : IntKind.i64.wrap (j : Int) = (j : Int) := by rw [IntKind.wrap_i64]; omega
                have hj0 : (0 : Int) ≤ (j : Int) := by omega
                have hj1 : (j : Int) < (np : Int) := by omega
                have hj2 : decide ((j : Int) < 0) = false := decide_eq_false (by omega)
                obtain ⟨p2, o2, x2, rfl, hp2, hx2, _, _, _, _, k4⟩ := rowPl HPW.out j hjl
                rw [hx] at hx2
                cases hx2
                have k4' := (HBel.out.cell hp2).trans k4
                have kL : p2 < wr.heap.size := Nat.lt_of_lt_of_le hp2 HBel.out.size
                have HPo2 : Hid (blocksS ps none bs = (((pq.n == q.p.b) && (match prvB bs i with | none => true | some r => decide (cmpP r q.p < 0))) && blocksS ps (some q.p) (bs.drop (i + 1)))) := hidP (by rw [HPo.out, decide_eq_true hj0]; simp)
                clear HPo hlp' hlp0 hbit hx hjl k4
                cases hbt : (pq.n == q.p.b)
                · have g3 : (pq.n != q.p.b) = true := by rw [bne, hbt]; rfl
                  rw [hbt] at HPo2
                  have HF : Hid ((poolsF none ps && blocksS ps none bs) = false) := hidP (by rw [HPo2.out]; simp)
                  clear HPo2 HPr HNx HPT hbt
                  go_wp2_with fail
                  obtain ⟨x0, x1, x2, x3, x4⟩ := boxBk (q := q) wr 38
                  have xB := alloc_below wr (.cells #[.bool q.p.s, .int .i64 q.p.H.toInt, .int .i64 q.p.L.toInt, .int .i64 q.p.b, .string q.t] 38)
                  have xL := alloc_lt wr (.cells #[.bool q.p.s, .int .i64 q.p.H.toInt, .int .i64 q.p.L.toInt, .int .i64 q.p.b, .string q.t] 38)
                  have xS : (wr.alloc (.cells #[.bool q.p.s, .int .i64 q.p.H.toInt, .int .i64 q.p.L.toInt, .int .i64 q.p.b, .string q.t] 38)).heap.size = wr.heap.size + 1 := by simp
                  generalize wr.alloc (.cells #[.bool q.p.s, .int .i64 q.p.H.toInt, .int .i64 q.p.L.toInt, .int .i64 q.p.b, .string q.t] 38) = W2 at *
                  have n0 := (xB.cell sL).trans s0
                  have n1 := (xB.cell sL).trans s1
                  have nL : w.heap.size < W2.heap.size := Nat.lt_of_lt_of_le sL xB.size
                  have m4 := (xB.cell kL).trans k4'
                  have mL : p2 < W2.heap.size := Nat.lt_of_lt_of_le kL xB.size
                  have HXB := hidP xB
                  clear xS xB
                  go_wp2_with fail
                  refine (HL.out W2 (HBel.out.trans (HXB.out.mono HBel.out.size))).mono ?_
                  rintro e w3 ⟨rfl, hb3⟩
                  have x0' := (hb3.cell xL).trans x0
                  have x1' := (hb3.cell xL).trans x1
                  have x2' := (hb3.cell xL).trans x2
                  have x3' := (hb3.cell xL).trans x3
                  have x4' := (hb3.cell xL).trans x4
                  have xL' : wr.heap.size < w3.heap.size := Nat.lt_of_lt_of_le xL hb3.size
                  have n0' := (hb3.cell nL).trans n0
                  have n1' := (hb3.cell nL).trans n1
                  have nL' : w.heap.size < w3.heap.size := Nat.lt_of_lt_of_le nL hb3.size
                  have m4' := (hb3.cell mL).trans m4
                  have mL' : p2 < w3.heap.size := Nat.lt_of_lt_of_le mL hb3.size
                  have HB3 := hidP hb3
                  clear x0 x1 x2 x3 x4 n0 n1 m4 k4' hb3 d0 d1 d2 d3 d4 s0 s1
                  go_wp2_with fail
                  have HSx : Hid (∀ x, Below w3.heap.size w3 x → (x.cell? ⟨wr.heap.size, 0, none⟩ = some (.bool q.p.s) ∧ x.cell? ⟨wr.heap.size, 1, none⟩ = some (.int .i64 q.p.H.toInt) ∧ x.cell? ⟨wr.heap.size, 2, none⟩ = some (.int .i64 q.p.L.toInt) ∧ x.cell? ⟨wr.heap.size, 3, none⟩ = some (.int .i64 q.p.b) ∧ x.cell? ⟨wr.heap.size, 4, none⟩ = some (.string q.t) ∧ x.cell? ⟨w.heap.size, 0, none⟩ = some (.slice (some ⟨p2, o2, none⟩) np cp) ∧ x.cell? ⟨w.heap.size, 1, none⟩ = some (.slice (some ⟨p, o, none⟩) nb cb) ∧ x.cell? ⟨p2, o2 + j * 5 + 4, none⟩ = some (.int .i64 pq.n) ∧ Below w3.heap.size w3 x)) := hidP fun x h =>
                    ⟨(h.cell xL').trans x0', (h.cell xL').trans x1', (h.cell xL').trans x2', (h.cell xL').trans x3', (h.cell xL').trans x4', (h.cell nL').trans n0', (h.cell nL').trans n1', (h.cell mL').trans m4', h⟩
                  refine wp_region_held_drew (S := (fun x => x.cell? ⟨wr.heap.size, 0, none⟩ = some (.bool q.p.s) ∧ x.cell? ⟨wr.heap.size, 1, none⟩ = some (.int .i64 q.p.H.toInt) ∧ x.cell? ⟨wr.heap.size, 2, none⟩ = some (.int .i64 q.p.L.toInt) ∧ x.cell? ⟨wr.heap.size, 3, none⟩ = some (.int .i64 q.p.b) ∧ x.cell? ⟨wr.heap.size, 4, none⟩ = some (.string q.t) ∧ x.cell? ⟨w.heap.size, 0, none⟩ = some (.slice (some ⟨p2, o2, none⟩) np cp) ∧ x.cell? ⟨w.heap.size, 1, none⟩ = some (.slice (some ⟨p, o, none⟩) nb cb) ∧ x.cell? ⟨p2, o2 + j * 5 + 4, none⟩ = some (.int .i64 pq.n) ∧ Below w3.heap.size w3 x)) (by kernel_rfl) ?_ (fun hHeld => ?_)
                  · try dsimp only
                    exact HSx.out _ (Below.refl _ _).drew
                  refine tk 0 84 rfl ?_
                  simp only [pa]
                  refine tk 1 85 rfl ?_
                  simp only [pa]
                  refine wpAnyH_ready (rs := [2]) (by kernel_rfl) (by simp) ?_
                  refine AllReadyH.cons rfl (fun K hK => ?_) AllReadyH.nil
                  go_simp
                  go_wp2_with (first | (go_at_call 42; refine (HQ1.out _).mono ?_; rintro e w5 ⟨rfl, hb5⟩; have b5 := (hHeld.2.2.2.2.2.2.2.2).trans (hb5.mono (hHeld.2.2.2.2.2.2.2.2).size)))
                  refine hK.out _ _ ?_ (fun hHeld => ?_)
                  · try dsimp only
                    exact HSx.out _ b5
                  clear hK K
                  refine tk 3 87 rfl ?_
                  simp only [pa]
                  refine tk 4 88 rfl ?_
                  simp only [pa]
                  refine tk 5 89 rfl ?_
                  simp only [pa]
                  refine tk 6 90 rfl ?_
                  simp only [pa]
                  refine wpAnyH_ready (rs := [7]) (by kernel_rfl) (by simp) ?_
                  refine AllReadyH.cons rfl (fun K hK => ?_) AllReadyH.nil
                  go_simp
                  go_wp2_with (first | (go_at_call 43; refine (HOw.out _).mono ?_; rintro e w' ⟨rfl, rfl⟩))
                  refine hK.out _ _ ?_ (fun hHeld => ?_)
                  · try dsimp only
                    exact HSx.out _ (hHeld.2.2.2.2.2.2.2.2)
                  clear hK K
                  refine tk 8 92 rfl ?_
                  simp only [pa]
                  refine tk 9 93 rfl ?_
                  simp only [pa]
                  refine tk 10 94 rfl ?_
                  simp only [pa]
                  refine tk 11 95 rfl ?_
                  simp only [pa]
                  refine tk 12 96 rfl ?_
                  simp only [pa]
                  refine tk 13 97 rfl ?_
                  simp only [pa]
                  refine tk 14 98 rfl ?_
                  simp only [pa]
                  refine tk 15 99 rfl ?_
                  simp only [pa]
                  refine tk 16 100 rfl ?_
                  simp only [pa]
                  refine tk 17 101 rfl ?_
                  simp only [pa]
                  refine tk 18 102 rfl ?_
                  simp only [pa]
                  refine tk 19 103 rfl ?_
                  simp only [pa]
                  refine tk 20 104 rfl ?_
                  simp only [pa]
                  refine tk 21 105 rfl ?_
                  simp only [pa]
                  refine tk 22 106 rfl ?_
                  simp only [pa]
                  refine tk 23 107 rfl ?_
                  simp only [pa]
                  refine tk 24 108 rfl ?_
                  simp only [pa]
                  refine tk 25 109 rfl ?_
                  simp only [pa]
                  refine tk 26 110 rfl ?_
                  simp only [pa]
                  refine sk 27 111 rfl ?_
                  simp only [pa]
                  refine sk 28 112 rfl ?_
                  simp only [pa]
                  refine sk 29 113 rfl ?_
                  simp only [pa]
                  refine sk 30 114 rfl ?_
                  simp only [pa]
                  refine sk 31 115 rfl ?_
                  simp only [pa]
                  refine sk 32 116 rfl ?_
                  simp only [pa]
                  refine sk 33 117 rfl ?_
                  simp only [pa]
                  refine sk 34 118 rfl ?_
                  simp only [pa]
                  refine sk 35 119 rfl ?_
                  simp only [pa]
                  refine sk 36 120 rfl ?_
                  simp only [pa]
                  refine sk 37 121 rfl ?_
                  simp only [pa]
                  refine sk 38 122 rfl ?_
                  simp only [pa]
                  refine sk 39 123 rfl ?_
                  simp only [pa]
                  refine sk 40 124 rfl ?_
                  simp only [pa]
                  refine sk 41 125 rfl ?_
                  simp only [pa]
                  refine tk 42 126 rfl ?_
                  simp only [pa]
                  have HE := hidP (hHeld.2.2.2.2.2.2.2.2)
                  refine wpAnyH_done (by kernel_rfl) ?_ _
                  clear hHeld
                  go_wp2_with fail
                  go_ret
                  exact ⟨ret_b HF.out.symm, HUB.out.trans ((HBel0.out.trans ((HBel.out.trans ((below_box HXB.out HXB.out.size HB3.out HE.out).mono HBel.out.size)).mono HBel0.out.size)).mono HUB.out.size)⟩
                · have g3 : (pq.n != q.p.b) = false := by rw [bne, hbt]; rfl
                  rw [hbt] at HPo2
                  clear hbt
                  by_cases hk0 : i = 0
                  · have g0 : decide ((0 : Int) < (i : Int)) = false := decide_eq_false (by omega)
                    have g1 : decide (0 < i) = false := decide_eq_false (by omega)
                    have HF : Hid (blocksS ps none bs = blocksS ps (some q.p) (bs.drop (i + 1))) := hidP (by rw [HPo2.out, hk0]; rfl)
                    clear HPo2 HPr hk0
                    go_wp2_with fail
                    obtain ⟨x0, x1, x2, x3, x4⟩ := boxBk (q := q) wr 38
                    have xB := alloc_below wr (.cells #[.bool q.p.s, .int .i64 q.p.H.toInt, .int .i64 q.p.L.toInt, .int .i64 q.p.b, .string q.t] 38)
                    have xL := alloc_lt wr (.cells #[.bool q.p.s, .int .i64 q.p.H.toInt, .int .i64 q.p.L.toInt, .int .i64 q.p.b, .string q.t] 38)
                    have xS : (wr.alloc (.cells #[.bool q.p.s, .int .i64 q.p.H.toInt, .int .i64 q.p.L.toInt, .int .i64 q.p.b, .string q.t] 38)).heap.size = wr.heap.size + 1 := by simp
                    generalize wr.alloc (.cells #[.bool q.p.s, .int .i64 q.p.H.toInt, .int .i64 q.p.L.toInt, .int .i64 q.p.b, .string q.t] 38) = W2 at *
                    have n0 := (xB.cell sL).trans s0
                    have n1 := (xB.cell sL).trans s1
                    have nL : w.heap.size < W2.heap.size := Nat.lt_of_lt_of_le sL xB.size
                    have m4 := (xB.cell kL).trans k4'
                    have mL : p2 < W2.heap.size := Nat.lt_of_lt_of_le kL xB.size
                    have HXB := hidP xB
                    clear xS xB
                    go_wp2_with fail
                    refine (HL.out W2 (HBel.out.trans (HXB.out.mono HBel.out.size))).mono ?_
                    rintro e w3 ⟨rfl, hb3⟩
                    have x0' := (hb3.cell xL).trans x0
                    have x1' := (hb3.cell xL).trans x1
                    have x2' := (hb3.cell xL).trans x2
                    have x3' := (hb3.cell xL).trans x3
                    have x4' := (hb3.cell xL).trans x4
                    have xL' : wr.heap.size < w3.heap.size := Nat.lt_of_lt_of_le xL hb3.size
                    have n0' := (hb3.cell nL).trans n0
                    have n1' := (hb3.cell nL).trans n1
                    have nL' : w.heap.size < w3.heap.size := Nat.lt_of_lt_of_le nL hb3.size
                    have m4' := (hb3.cell mL).trans m4
                    have mL' : p2 < w3.heap.size := Nat.lt_of_lt_of_le mL hb3.size
                    have HB3 := hidP hb3
                    clear x0 x1 x2 x3 x4 n0 n1 m4 k4' hb3 d0 d1 d2 d3 d4 s0 s1
                    go_wp2_with fail
                    have HSx : Hid (∀ x, Below w3.heap.size w3 x → (x.cell? ⟨wr.heap.size, 0, none⟩ = some (.bool q.p.s) ∧ x.cell? ⟨wr.heap.size, 1, none⟩ = some (.int .i64 q.p.H.toInt) ∧ x.cell? ⟨wr.heap.size, 2, none⟩ = some (.int .i64 q.p.L.toInt) ∧ x.cell? ⟨wr.heap.size, 3, none⟩ = some (.int .i64 q.p.b) ∧ x.cell? ⟨wr.heap.size, 4, none⟩ = some (.string q.t) ∧ x.cell? ⟨w.heap.size, 0, none⟩ = some (.slice (some ⟨p2, o2, none⟩) np cp) ∧ x.cell? ⟨w.heap.size, 1, none⟩ = some (.slice (some ⟨p, o, none⟩) nb cb) ∧ x.cell? ⟨p2, o2 + j * 5 + 4, none⟩ = some (.int .i64 pq.n) ∧ Below w3.heap.size w3 x)) := hidP fun x h =>
                      ⟨(h.cell xL').trans x0', (h.cell xL').trans x1', (h.cell xL').trans x2', (h.cell xL').trans x3', (h.cell xL').trans x4', (h.cell nL').trans n0', (h.cell nL').trans n1', (h.cell mL').trans m4', h⟩
                    refine wp_region_held_drew (S := (fun x => x.cell? ⟨wr.heap.size, 0, none⟩ = some (.bool q.p.s) ∧ x.cell? ⟨wr.heap.size, 1, none⟩ = some (.int .i64 q.p.H.toInt) ∧ x.cell? ⟨wr.heap.size, 2, none⟩ = some (.int .i64 q.p.L.toInt) ∧ x.cell? ⟨wr.heap.size, 3, none⟩ = some (.int .i64 q.p.b) ∧ x.cell? ⟨wr.heap.size, 4, none⟩ = some (.string q.t) ∧ x.cell? ⟨w.heap.size, 0, none⟩ = some (.slice (some ⟨p2, o2, none⟩) np cp) ∧ x.cell? ⟨w.heap.size, 1, none⟩ = some (.slice (some ⟨p, o, none⟩) nb cb) ∧ x.cell? ⟨p2, o2 + j * 5 + 4, none⟩ = some (.int .i64 pq.n) ∧ Below w3.heap.size w3 x)) (by kernel_rfl) ?_ (fun hHeld => ?_)
                    · try dsimp only
                      exact HSx.out _ (Below.refl _ _).drew
                    refine tk 0 84 rfl ?_
                    simp only [pa]
                    refine tk 1 85 rfl ?_
                    simp only [pa]
                    refine wpAnyH_ready (rs := [2]) (by kernel_rfl) (by simp) ?_
                    refine AllReadyH.cons rfl (fun K hK => ?_) AllReadyH.nil
                    go_simp
                    go_wp2_with (first | (go_at_call 42; refine (HQ1.out _).mono ?_; rintro e w5 ⟨rfl, hb5⟩; have b5 := (hHeld.2.2.2.2.2.2.2.2).trans (hb5.mono (hHeld.2.2.2.2.2.2.2.2).size)))
                    refine hK.out _ _ ?_ (fun hHeld => ?_)
                    · try dsimp only
                      exact HSx.out _ b5
                    clear hK K
                    refine tk 3 87 rfl ?_
                    simp only [pa]
                    refine tk 4 88 rfl ?_
                    simp only [pa]
                    refine tk 5 89 rfl ?_
                    simp only [pa]
                    refine tk 6 90 rfl ?_
                    simp only [pa]
                    refine wpAnyH_ready (rs := [7]) (by kernel_rfl) (by simp) ?_
                    refine AllReadyH.cons rfl (fun K hK => ?_) AllReadyH.nil
                    go_simp
                    go_wp2_with (first | (go_at_call 43; refine (HOw.out _).mono ?_; rintro e w' ⟨rfl, rfl⟩))
                    refine hK.out _ _ ?_ (fun hHeld => ?_)
                    · try dsimp only
                      exact HSx.out _ (hHeld.2.2.2.2.2.2.2.2)
                    clear hK K
                    refine tk 8 92 rfl ?_
                    simp only [pa]
                    refine tk 9 93 rfl ?_
                    simp only [pa]
                    refine tk 10 94 rfl ?_
                    simp only [pa]
                    refine tk 11 95 rfl ?_
                    simp only [pa]
                    refine tk 12 96 rfl ?_
                    simp only [pa]
                    refine tk 13 97 rfl ?_
                    simp only [pa]
                    refine tk 14 98 rfl ?_
                    simp only [pa]
                    refine tk 15 99 rfl ?_
                    simp only [pa]
                    refine tk 16 100 rfl ?_
                    simp only [pa]
                    refine tk 17 101 rfl ?_
                    simp only [pa]
                    refine tk 18 102 rfl ?_
                    simp only [pa]
                    refine tk 19 103 rfl ?_
                    simp only [pa]
                    refine tk 20 104 rfl ?_
                    simp only [pa]
                    refine tk 21 105 rfl ?_
                    simp only [pa]
                    refine tk 22 106 rfl ?_
                    simp only [pa]
                    refine tk 23 107 rfl ?_
                    simp only [pa]
                    refine tk 24 108 rfl ?_
                    simp only [pa]
                    refine tk 25 109 rfl ?_
                    simp only [pa]
                    refine tk 26 110 rfl ?_
                    simp only [pa]
                    refine tk 27 111 rfl ?_
                    simp only [pa]
                    refine tk 28 112 rfl ?_
                    simp only [pa]
                    refine tk 29 113 rfl ?_
                    simp only [pa]
                    refine sk 30 114 rfl ?_
                    simp only [pa]
                    refine sk 31 115 rfl ?_
                    simp only [pa]
                    refine sk 32 116 rfl ?_
                    simp only [pa]
                    refine sk 33 117 rfl ?_
                    simp only [pa]
                    refine sk 34 118 rfl ?_
                    simp only [pa]
                    refine sk 35 119 rfl ?_
                    simp only [pa]
                    refine sk 36 120 rfl ?_
                    simp only [pa]
                    refine sk 37 121 rfl ?_
                    simp only [pa]
                    refine sk 38 122 rfl ?_
                    simp only [pa]
                    refine sk 39 123 rfl ?_
                    simp only [pa]
                    refine sk 40 124 rfl ?_
                    simp only [pa]
                    refine tk 41 125 rfl ?_
                    simp only [pa]
                    refine tk 42 126 rfl ?_
                    simp only [pa]
                    have HE := hidP (hHeld.2.2.2.2.2.2.2.2)
                    refine wpAnyH_done (by kernel_rfl) ?_ _
                    clear hHeld
                    go_wp2_with fail
                    go_roundw
                    case rel => exact ⟨i + 1, by omega, by go_num, by rw [HF.out, HNx.out], (fun r h => by rw [HNx.out] at h; cases h; exact HPk.out), HBel.out.trans ((below_box HXB.out HXB.out.size HB3.out HE.out).mono HBel.out.size)⟩
                    case measure => simp [intOf]; omega
                  · have g0 : decide ((0 : Int) < (i : Int)) = true := decide_eq_true (by omega)
                    have g1 : decide (0 < i) = true := decide_eq_true (by omega)
                    obtain ⟨J, hJ⟩ : ∃ J, J = i - 1 := ⟨_, rfl⟩
                    have hkJ : i = J + 1 := by omega
                    have hJi : (i : Int) - 1 = (J : Int) := by omega
                    have hJn : J < nb := by omega
                    have wJ : IntKind.i64.wrap (J : Int) = (J : Int) := by rw [IntKind.wrap_i64]; omega
                    have hJ0 : (0 : Int) ≤ (J : Int) := by omega
                    have hJ1 : (J : Int) < (nb : Int) := by omega
                    obtain ⟨p', o', r, he, hp', hr, c0, c1, c2, c3, c4⟩ := rowBk HBW.out J (by rw [← HNB.out]; exact hJn)
                    simp only [Option.some.injEq, Addr.mk.injEq, and_true] at he
                    obtain ⟨rfl, rfl⟩ := he
                    have hprv : prvB bs i = some r.p := by rw [hkJ]; exact prvB_next hr
                    have hrpk : r.p.pk = true := HPr.out _ hprv
                    have HPo3 : Hid (blocksS ps none bs = (decide (cmpP r.p q.p < 0) && blocksS ps (some q.p) (bs.drop (i + 1)))) := hidP (by rw [HPo2.out, hprv]; simp)
                    have HC := hidP (sCmpP r.p q.p hrpk HPk.out)
                    have e0 := (HBel.out.cell hp').trans c0
                    have e1 := (HBel.out.cell hp').trans c1
                    have e2 := (HBel.out.cell hp').trans c2
                    have e3 := (HBel.out.cell hp').trans c3
                    clear c0 c1 c2 c3 c4 hr hprv hrpk hJ hkJ hk0 HPo2 HPr
                    cases hcm : decide (cmpP r.p q.p < 0)
                    · have g2 := ge_not hcm
                      rw [hcm] at HPo3
                      have HF : Hid ((poolsF none ps && blocksS ps none bs) = false) := hidP (by rw [HPo3.out]; simp)
                      clear HPo3 hcm HPT
                      generalize cmpP r.p q.p = cm at *
                      go_wp2_with fail
                      obtain ⟨x0, x1, x2, x3, x4⟩ := boxBk (q := q) wr 38
                      have xB := alloc_below wr (.cells #[.bool q.p.s, .int .i64 q.p.H.toInt, .int .i64 q.p.L.toInt, .int .i64 q.p.b, .string q.t] 38)
                      have xL := alloc_lt wr (.cells #[.bool q.p.s, .int .i64 q.p.H.toInt, .int .i64 q.p.L.toInt, .int .i64 q.p.b, .string q.t] 38)
                      have xS : (wr.alloc (.cells #[.bool q.p.s, .int .i64 q.p.H.toInt, .int .i64 q.p.L.toInt, .int .i64 q.p.b, .string q.t] 38)).heap.size = wr.heap.size + 1 := by simp
                      generalize wr.alloc (.cells #[.bool q.p.s, .int .i64 q.p.H.toInt, .int .i64 q.p.L.toInt, .int .i64 q.p.b, .string q.t] 38) = W2 at *
                      have n0 := (xB.cell sL).trans s0
                      have n1 := (xB.cell sL).trans s1
                      have nL : w.heap.size < W2.heap.size := Nat.lt_of_lt_of_le sL xB.size
                      have m4 := (xB.cell kL).trans k4'
                      have mL : p2 < W2.heap.size := Nat.lt_of_lt_of_le kL xB.size
                      have y0 := (xB.cell dL).trans e0
                      have y1 := (xB.cell dL).trans e1
                      have y2 := (xB.cell dL).trans e2
                      have y3 := (xB.cell dL).trans e3
                      have yL : p < W2.heap.size := Nat.lt_of_lt_of_le dL xB.size
                      have HXB := hidP xB
                      clear xS xB
                      go_wp2_with fail
                      refine (HL.out W2 (HBel.out.trans (HXB.out.mono HBel.out.size))).mono ?_
                      rintro e w3 ⟨rfl, hb3⟩
                      have x0' := (hb3.cell xL).trans x0
                      have x1' := (hb3.cell xL).trans x1
                      have x2' := (hb3.cell xL).trans x2
                      have x3' := (hb3.cell xL).trans x3
                      have x4' := (hb3.cell xL).trans x4
                      have xL' : wr.heap.size < w3.heap.size := Nat.lt_of_lt_of_le xL hb3.size
                      have n0' := (hb3.cell nL).trans n0
                      have n1' := (hb3.cell nL).trans n1
                      have nL' : w.heap.size < w3.heap.size := Nat.lt_of_lt_of_le nL hb3.size
                      have m4' := (hb3.cell mL).trans m4
                      have mL' : p2 < w3.heap.size := Nat.lt_of_lt_of_le mL hb3.size
                      have y0' := (hb3.cell yL).trans y0
                      have y1' := (hb3.cell yL).trans y1
                      have y2' := (hb3.cell yL).trans y2
                      have y3' := (hb3.cell yL).trans y3
                      have yL' : p < w3.heap.size := Nat.lt_of_lt_of_le yL hb3.size
                      have HB3 := hidP hb3
                      clear x0 x1 x2 x3 x4 n0 n1 m4 k4' y0 y1 y2 y3 e0 e1 e2 e3 hb3 d0 d1 d2 d3 d4 s0 s1
                      go_wp2_with fail
                      have HSx : Hid (∀ x, Below w3.heap.size w3 x → (x.cell? ⟨wr.heap.size, 0, none⟩ = some (.bool q.p.s) ∧ x.cell? ⟨wr.heap.size, 1, none⟩ = some (.int .i64 q.p.H.toInt) ∧ x.cell? ⟨wr.heap.size, 2, none⟩ = some (.int .i64 q.p.L.toInt) ∧ x.cell? ⟨wr.heap.size, 3, none⟩ = some (.int .i64 q.p.b) ∧ x.cell? ⟨wr.heap.size, 4, none⟩ = some (.string q.t) ∧ x.cell? ⟨w.heap.size, 0, none⟩ = some (.slice (some ⟨p2, o2, none⟩) np cp) ∧ x.cell? ⟨w.heap.size, 1, none⟩ = some (.slice (some ⟨p, o, none⟩) nb cb) ∧ x.cell? ⟨p2, o2 + j * 5 + 4, none⟩ = some (.int .i64 pq.n) ∧ x.cell? ⟨p, o + J * 5, none⟩ = some (.bool r.p.s) ∧ x.cell? ⟨p, o + J * 5 + 1, none⟩ = some (.int .i64 r.p.H.toInt) ∧ x.cell? ⟨p, o + J * 5 + 2, none⟩ = some (.int .i64 r.p.L.toInt) ∧ x.cell? ⟨p, o + J * 5 + 3, none⟩ = some (.int .i64 r.p.b) ∧ Below w3.heap.size w3 x)) := hidP fun x h =>
                        ⟨(h.cell xL').trans x0', (h.cell xL').trans x1', (h.cell xL').trans x2', (h.cell xL').trans x3', (h.cell xL').trans x4', (h.cell nL').trans n0', (h.cell nL').trans n1', (h.cell mL').trans m4', (h.cell yL').trans y0', (h.cell yL').trans y1', (h.cell yL').trans y2', (h.cell yL').trans y3', h⟩
                      refine wp_region_held_drew (S := (fun x => x.cell? ⟨wr.heap.size, 0, none⟩ = some (.bool q.p.s) ∧ x.cell? ⟨wr.heap.size, 1, none⟩ = some (.int .i64 q.p.H.toInt) ∧ x.cell? ⟨wr.heap.size, 2, none⟩ = some (.int .i64 q.p.L.toInt) ∧ x.cell? ⟨wr.heap.size, 3, none⟩ = some (.int .i64 q.p.b) ∧ x.cell? ⟨wr.heap.size, 4, none⟩ = some (.string q.t) ∧ x.cell? ⟨w.heap.size, 0, none⟩ = some (.slice (some ⟨p2, o2, none⟩) np cp) ∧ x.cell? ⟨w.heap.size, 1, none⟩ = some (.slice (some ⟨p, o, none⟩) nb cb) ∧ x.cell? ⟨p2, o2 + j * 5 + 4, none⟩ = some (.int .i64 pq.n) ∧ x.cell? ⟨p, o + J * 5, none⟩ = some (.bool r.p.s) ∧ x.cell? ⟨p, o + J * 5 + 1, none⟩ = some (.int .i64 r.p.H.toInt) ∧ x.cell? ⟨p, o + J * 5 + 2, none⟩ = some (.int .i64 r.p.L.toInt) ∧ x.cell? ⟨p, o + J * 5 + 3, none⟩ = some (.int .i64 r.p.b) ∧ Below w3.heap.size w3 x)) (by kernel_rfl) ?_ (fun hHeld => ?_)
                      · try dsimp only
                        exact HSx.out _ (Below.refl _ _).drew
                      refine tk 0 84 rfl ?_
                      simp only [pa]
                      refine tk 1 85 rfl ?_
                      simp only [pa]
                      refine wpAnyH_ready (rs := [2]) (by kernel_rfl) (by simp) ?_
                      refine AllReadyH.cons rfl (fun K hK => ?_) AllReadyH.nil
                      go_simp
                      go_wp2_with (first | (go_at_call 42; refine (HQ1.out _).mono ?_; rintro e w5 ⟨rfl, hb5⟩; have b5 := (hHeld.2.2.2.2.2.2.2.2.2.2.2.2).trans (hb5.mono (hHeld.2.2.2.2.2.2.2.2.2.2.2.2).size)))
                      refine hK.out _ _ ?_ (fun hHeld => ?_)
                      · try dsimp only
                        exact HSx.out _ b5
                      clear hK K
                      refine tk 3 87 rfl ?_
                      simp only [pa]
                      refine tk 4 88 rfl ?_
                      simp only [pa]
                      refine tk 5 89 rfl ?_
                      simp only [pa]
                      refine tk 6 90 rfl ?_
                      simp only [pa]
                      refine wpAnyH_ready (rs := [7]) (by kernel_rfl) (by simp) ?_
                      refine AllReadyH.cons rfl (fun K hK => ?_) AllReadyH.nil
                      go_simp
                      go_wp2_with (first | (go_at_call 43; refine (HOw.out _).mono ?_; rintro e w' ⟨rfl, rfl⟩))
                      refine hK.out _ _ ?_ (fun hHeld => ?_)
                      · try dsimp only
                        exact HSx.out _ (hHeld.2.2.2.2.2.2.2.2.2.2.2.2)
                      clear hK K
                      refine tk 8 92 rfl ?_
                      simp only [pa]
                      refine tk 9 93 rfl ?_
                      simp only [pa]
                      refine tk 10 94 rfl ?_
                      simp only [pa]
                      refine tk 11 95 rfl ?_
                      simp only [pa]
                      refine tk 12 96 rfl ?_
                      simp only [pa]
                      refine tk 13 97 rfl ?_
                      simp only [pa]
                      refine tk 14 98 rfl ?_
                      simp only [pa]
                      refine tk 15 99 rfl ?_
                      simp only [pa]
                      refine tk 16 100 rfl ?_
                      simp only [pa]
                      refine tk 17 101 rfl ?_
                      simp only [pa]
                      refine tk 18 102 rfl ?_
                      simp only [pa]
                      refine tk 19 103 rfl ?_
                      simp only [pa]
                      refine tk 20 104 rfl ?_
                      simp only [pa]
                      refine tk 21 105 rfl ?_
                      simp only [pa]
                      refine tk 22 106 rfl ?_
                      simp only [pa]
                      refine tk 23 107 rfl ?_
                      simp only [pa]
                      refine tk 24 108 rfl ?_
                      simp only [pa]
                      refine tk 25 109 rfl ?_
                      simp only [pa]
                      refine tk 26 110 rfl ?_
                      simp only [pa]
                      refine tk 27 111 rfl ?_
                      simp only [pa]
                      refine tk 28 112 rfl ?_
                      simp only [pa]
                      refine tk 29 113 rfl ?_
                      simp only [pa]
                      refine tk 30 114 rfl ?_
                      simp only [pa]
                      refine tk 31 115 rfl ?_
                      simp only [pa]
                      refine tk 32 116 rfl ?_
                      simp only [pa]
                      refine tk 33 117 rfl ?_
                      simp only [pa]
                      refine tk 34 118 rfl ?_
                      simp only [pa]
                      refine tk 35 119 rfl ?_
                      simp only [pa]
                      refine tk 36 120 rfl ?_
                      simp only [pa]
                      refine tk 37 121 rfl ?_
                      simp only [pa]
                      refine tk 38 122 rfl ?_
                      simp only [pa]
                      refine wpAnyH_ready (rs := [39]) (by kernel_rfl) (by simp) ?_
                      refine AllReadyH.cons rfl (fun K hK => ?_) AllReadyH.nil
                      go_simp
                      go_wp2_with (first | (go_at_call 47; refine (HC.out _).mono ?_; rintro e w6 ⟨rfl, hb6⟩; have b6 := (hHeld.2.2.2.2.2.2.2.2.2.2.2.2).trans (hb6.mono (hHeld.2.2.2.2.2.2.2.2.2.2.2.2).size)))
                      refine hK.out _ _ ?_ (fun hHeld => ?_)
                      · try dsimp only
                        exact HSx.out _ b6
                      clear hK K
                      refine tk 40 124 rfl ?_
                      simp only [pa]
                      refine tk 41 125 rfl ?_
                      simp only [pa]
                      refine tk 42 126 rfl ?_
                      simp only [pa]
                      have HE := hidP (hHeld.2.2.2.2.2.2.2.2.2.2.2.2)
                      refine wpAnyH_done (by kernel_rfl) ?_ _
                      clear hHeld
                      go_wp2_with fail
                      go_ret
                      exact ⟨ret_b HF.out.symm, HUB.out.trans ((HBel0.out.trans ((HBel.out.trans ((below_box HXB.out HXB.out.size HB3.out HE.out).mono HBel.out.size)).mono HBel0.out.size)).mono HUB.out.size)⟩
                    · have g2 := ge_not hcm
                      rw [hcm] at HPo3
                      have HF : Hid (blocksS ps none bs = blocksS ps (some q.p) (bs.drop (i + 1))) := hidP (by rw [HPo3.out]; rfl)
                      clear HPo3 hcm
                      generalize cmpP r.p q.p = cm at *
                      go_wp2_with fail
                      obtain ⟨x0, x1, x2, x3, x4⟩ := boxBk (q := q) wr 38
                      have xB := alloc_below wr (.cells #[.bool q.p.s, .int .i64 q.p.H.toInt, .int .i64 q.p.L.toInt, .int .i64 q.p.b, .string q.t] 38)
                      have xL := alloc_lt wr (.cells #[.bool q.p.s, .int .i64 q.p.H.toInt, .int .i64 q.p.L.toInt, .int .i64 q.p.b, .string q.t] 38)
                      have xS : (wr.alloc (.cells #[.bool q.p.s, .int .i64 q.p.H.toInt, .int .i64 q.p.L.toInt, .int .i64 q.p.b, .string q.t] 38)).heap.size = wr.heap.size + 1 := by simp
                      generalize wr.alloc (.cells #[.bool q.p.s, .int .i64 q.p.H.toInt, .int .i64 q.p.L.toInt, .int .i64 q.p.b, .string q.t] 38) = W2 at *
                      have n0 := (xB.cell sL).trans s0
                      have n1 := (xB.cell sL).trans s1
                      have nL : w.heap.size < W2.heap.size := Nat.lt_of_lt_of_le sL xB.size
                      have m4 := (xB.cell kL).trans k4'
                      have mL : p2 < W2.heap.size := Nat.lt_of_lt_of_le kL xB.size
                      have y0 := (xB.cell dL).trans e0
                      have y1 := (xB.cell dL).trans e1
                      have y2 := (xB.cell dL).trans e2
                      have y3 := (xB.cell dL).trans e3
                      have yL : p < W2.heap.size := Nat.lt_of_lt_of_le dL xB.size
                      have HXB := hidP xB
                      clear xS xB
                      go_wp2_with fail
                      refine (HL.out W2 (HBel.out.trans (HXB.out.mono HBel.out.size))).mono ?_
                      rintro e w3 ⟨rfl, hb3⟩
                      have x0' := (hb3.cell xL).trans x0
                      have x1' := (hb3.cell xL).trans x1
                      have x2' := (hb3.cell xL).trans x2
                      have x3' := (hb3.cell xL).trans x3
                      have x4' := (hb3.cell xL).trans x4
                      have xL' : wr.heap.size < w3.heap.size := Nat.lt_of_lt_of_le xL hb3.size
                      have n0' := (hb3.cell nL).trans n0
                      have n1' := (hb3.cell nL).trans n1
                      have nL' : w.heap.size < w3.heap.size := Nat.lt_of_lt_of_le nL hb3.size
                      have m4' := (hb3.cell mL).trans m4
                      have mL' : p2 < w3.heap.size := Nat.lt_of_lt_of_le mL hb3.size
                      have y0' := (hb3.cell yL).trans y0
                      have y1' := (hb3.cell yL).trans y1
                      have y2' := (hb3.cell yL).trans y2
                      have y3' := (hb3.cell yL).trans y3
                      have yL' : p < w3.heap.size := Nat.lt_of_lt_of_le yL hb3.size
                      have HB3 := hidP hb3
                      clear x0 x1 x2 x3 x4 n0 n1 m4 k4' y0 y1 y2 y3 e0 e1 e2 e3 hb3 d0 d1 d2 d3 d4 s0 s1
                      go_wp2_with fail
                      have HSx : Hid (∀ x, Below w3.heap.size w3 x → (x.cell? ⟨wr.heap.size, 0, none⟩ = some (.bool q.p.s) ∧ x.cell? ⟨wr.heap.size, 1, none⟩ = some (.int .i64 q.p.H.toInt) ∧ x.cell? ⟨wr.heap.size, 2, none⟩ = some (.int .i64 q.p.L.toInt) ∧ x.cell? ⟨wr.heap.size, 3, none⟩ = some (.int .i64 q.p.b) ∧ x.cell? ⟨wr.heap.size, 4, none⟩ = some (.string q.t) ∧ x.cell? ⟨w.heap.size, 0, none⟩ = some (.slice (some ⟨p2, o2, none⟩) np cp) ∧ x.cell? ⟨w.heap.size, 1, none⟩ = some (.slice (some ⟨p, o, none⟩) nb cb) ∧ x.cell? ⟨p2, o2 + j * 5 + 4, none⟩ = some (.int .i64 pq.n) ∧ x.cell? ⟨p, o + J * 5, none⟩ = some (.bool r.p.s) ∧ x.cell? ⟨p, o + J * 5 + 1, none⟩ = some (.int .i64 r.p.H.toInt) ∧ x.cell? ⟨p, o + J * 5 + 2, none⟩ = some (.int .i64 r.p.L.toInt) ∧ x.cell? ⟨p, o + J * 5 + 3, none⟩ = some (.int .i64 r.p.b) ∧ Below w3.heap.size w3 x)) := hidP fun x h =>
                        ⟨(h.cell xL').trans x0', (h.cell xL').trans x1', (h.cell xL').trans x2', (h.cell xL').trans x3', (h.cell xL').trans x4', (h.cell nL').trans n0', (h.cell nL').trans n1', (h.cell mL').trans m4', (h.cell yL').trans y0', (h.cell yL').trans y1', (h.cell yL').trans y2', (h.cell yL').trans y3', h⟩
                      refine wp_region_held_drew (S := (fun x => x.cell? ⟨wr.heap.size, 0, none⟩ = some (.bool q.p.s) ∧ x.cell? ⟨wr.heap.size, 1, none⟩ = some (.int .i64 q.p.H.toInt) ∧ x.cell? ⟨wr.heap.size, 2, none⟩ = some (.int .i64 q.p.L.toInt) ∧ x.cell? ⟨wr.heap.size, 3, none⟩ = some (.int .i64 q.p.b) ∧ x.cell? ⟨wr.heap.size, 4, none⟩ = some (.string q.t) ∧ x.cell? ⟨w.heap.size, 0, none⟩ = some (.slice (some ⟨p2, o2, none⟩) np cp) ∧ x.cell? ⟨w.heap.size, 1, none⟩ = some (.slice (some ⟨p, o, none⟩) nb cb) ∧ x.cell? ⟨p2, o2 + j * 5 + 4, none⟩ = some (.int .i64 pq.n) ∧ x.cell? ⟨p, o + J * 5, none⟩ = some (.bool r.p.s) ∧ x.cell? ⟨p, o + J * 5 + 1, none⟩ = some (.int .i64 r.p.H.toInt) ∧ x.cell? ⟨p, o + J * 5 + 2, none⟩ = some (.int .i64 r.p.L.toInt) ∧ x.cell? ⟨p, o + J * 5 + 3, none⟩ = some (.int .i64 r.p.b) ∧ Below w3.heap.size w3 x)) (by kernel_rfl) ?_ (fun hHeld => ?_)
                      · try dsimp only
                        exact HSx.out _ (Below.refl _ _).drew
                      refine tk 0 84 rfl ?_
                      simp only [pa]
                      refine tk 1 85 rfl ?_
                      simp only [pa]
                      refine wpAnyH_ready (rs := [2]) (by kernel_rfl) (by simp) ?_
                      refine AllReadyH.cons rfl (fun K hK => ?_) AllReadyH.nil
                      go_simp
                      go_wp2_with (first | (go_at_call 42; refine (HQ1.out _).mono ?_; rintro e w5 ⟨rfl, hb5⟩; have b5 := (hHeld.2.2.2.2.2.2.2.2.2.2.2.2).trans (hb5.mono (hHeld.2.2.2.2.2.2.2.2.2.2.2.2).size)))
                      refine hK.out _ _ ?_ (fun hHeld => ?_)
                      · try dsimp only
                        exact HSx.out _ b5
                      clear hK K
                      refine tk 3 87 rfl ?_
                      simp only [pa]
                      refine tk 4 88 rfl ?_
                      simp only [pa]
                      refine tk 5 89 rfl ?_
                      simp only [pa]
                      refine tk 6 90 rfl ?_
                      simp only [pa]
                      refine wpAnyH_ready (rs := [7]) (by kernel_rfl) (by simp) ?_
                      refine AllReadyH.cons rfl (fun K hK => ?_) AllReadyH.nil
                      go_simp
                      go_wp2_with (first | (go_at_call 43; refine (HOw.out _).mono ?_; rintro e w' ⟨rfl, rfl⟩))
                      refine hK.out _ _ ?_ (fun hHeld => ?_)
                      · try dsimp only
                        exact HSx.out _ (hHeld.2.2.2.2.2.2.2.2.2.2.2.2)
                      clear hK K
                      refine tk 8 92 rfl ?_
                      simp only [pa]
                      refine tk 9 93 rfl ?_
                      simp only [pa]
                      refine tk 10 94 rfl ?_
                      simp only [pa]
                      refine tk 11 95 rfl ?_
                      simp only [pa]
                      refine tk 12 96 rfl ?_
                      simp only [pa]
                      refine tk 13 97 rfl ?_
                      simp only [pa]
                      refine tk 14 98 rfl ?_
                      simp only [pa]
                      refine tk 15 99 rfl ?_
                      simp only [pa]
                      refine tk 16 100 rfl ?_
                      simp only [pa]
                      refine tk 17 101 rfl ?_
                      simp only [pa]
                      refine tk 18 102 rfl ?_
                      simp only [pa]
                      refine tk 19 103 rfl ?_
                      simp only [pa]
                      refine tk 20 104 rfl ?_
                      simp only [pa]
                      refine tk 21 105 rfl ?_
                      simp only [pa]
                      refine tk 22 106 rfl ?_
                      simp only [pa]
                      refine tk 23 107 rfl ?_
                      simp only [pa]
                      refine tk 24 108 rfl ?_
                      simp only [pa]
                      refine tk 25 109 rfl ?_
                      simp only [pa]
                      refine tk 26 110 rfl ?_
                      simp only [pa]
                      refine tk 27 111 rfl ?_
                      simp only [pa]
                      refine tk 28 112 rfl ?_
                      simp only [pa]
                      refine tk 29 113 rfl ?_
                      simp only [pa]
                      refine tk 30 114 rfl ?_
                      simp only [pa]
                      refine tk 31 115 rfl ?_
                      simp only [pa]
                      refine tk 32 116 rfl ?_
                      simp only [pa]
                      refine tk 33 117 rfl ?_
                      simp only [pa]
                      refine tk 34 118 rfl ?_
                      simp only [pa]
                      refine tk 35 119 rfl ?_
                      simp only [pa]
                      refine tk 36 120 rfl ?_
                      simp only [pa]
                      refine tk 37 121 rfl ?_
                      simp only [pa]
                      refine tk 38 122 rfl ?_
                      simp only [pa]
                      refine wpAnyH_ready (rs := [39]) (by kernel_rfl) (by simp) ?_
                      refine AllReadyH.cons rfl (fun K hK => ?_) AllReadyH.nil
                      go_simp
                      go_wp2_with (first | (go_at_call 47; refine (HC.out _).mono ?_; rintro e w6 ⟨rfl, hb6⟩; have b6 := (hHeld.2.2.2.2.2.2.2.2.2.2.2.2).trans (hb6.mono (hHeld.2.2.2.2.2.2.2.2.2.2.2.2).size)))
                      refine hK.out _ _ ?_ (fun hHeld => ?_)
                      · try dsimp only
                        exact HSx.out _ b6
                      clear hK K
                      refine tk 40 124 rfl ?_
                      simp only [pa]
                      refine tk 41 125 rfl ?_
                      simp only [pa]
                      refine tk 42 126 rfl ?_
                      simp only [pa]
                      have HE := hidP (hHeld.2.2.2.2.2.2.2.2.2.2.2.2)
                      refine wpAnyH_done (by kernel_rfl) ?_ _
                      clear hHeld
                      go_wp2_with fail
                      go_roundw
                      case rel => exact ⟨i + 1, by omega, by go_num, by rw [HF.out, HNx.out], (fun r h => by rw [HNx.out] at h; cases h; exact HPk.out), HBel.out.trans ((below_box HXB.out HXB.out.size HB3.out HE.out).mono HBel.out.size)⟩
                      case measure => simp [intOf]; omega
        · have HF : Hid ((poolsF none ps && blocksS ps none bs) = true) := by
            rw [List.drop_of_length_le (by have := HNB.out; omega)] at hpo
            refine hidP ?_
            rw [HPT.out, hpo]; rfl
          have HBel := hidP hbel
          clear hbel hpo hpr
          go_wp2_with fail
          go_ret
          exact ⟨ret_b HF.out.symm, HUB.out.trans ((HBel0.out.trans (HBel.out.mono HBel0.out.size)).mono HUB.out.size)⟩

end Go.Proofs.YtdbcdichmmcnbaaGreat
