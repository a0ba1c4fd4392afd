/-
  What putSum_both needs, part 5.
-/
import Derived.Test.YtngcbhbcocnbeaaGreatZX4
import Derived.Deep.RegionWith
import Derived.Deep.DeepCutAuto
import Derived.Deep.RegionHeld3
import Derived.Test.YtngcbhbcocnbeaaGreatShelf
import Derived.Sort.OwnSortedInts
namespace Go.Proofs.YtngcbhbcocnbeaaGreat
open Go.RowKit

theorem lpF_lt (p : Pf) : ∀ (ps : List Pl) (i : Nat), lpF p i ps = -1 ∨ ∃ j q, lpF p i ps = ((i + j : Nat) : Int) ∧ ps[j]? = some q
  | [], _ => Or.inl rfl
  | q :: t, i => by
      unfold lpF
      by_cases h : winP p q.p = true
      · rw [if_pos h]; exact Or.inr ⟨0, q, rfl, rfl⟩
      · rw [if_neg h]
        rcases lpF_lt p t (i + 1) with h' | ⟨j, x, h1, h2⟩
        · exact Or.inl h'
        · refine Or.inr ⟨j + 1, x, ?_, by simpa using h2⟩
          rw [show ((i : Int) + 1) = ((i + 1 : Nat) : Int) by omega, h1]
          congr 1; omega
theorem folB_split {p q : Pf} : folB p q = (decide (cmpP p q < 0) && !ovP p q) := rfl
theorem ge_not {x : Int} {b : Bool} (h : decide (x < 0) = b) : decide (0 ≤ x) = !b := by subst h; rw [← decide_not]; exact decide_eq_decide.mpr (by omega)

set_option maxRecDepth 10000 in
set_option maxHeartbeats 16000000 in
theorem sPlanOk_core (ap : Option Addr) (np cp : Nat) (ab : Option Addr) (nb cb : Nat) (ps : List Pl) (bs : List Bk) (w : World) (hnp : np = ps.length) (hnb : nb = bs.length) (hP : RowG KPl w ap ps) (hK : RowG KBk w ab bs) (hlp : np ≤ 20) (hl : nb ≤ 60) (hst : ∀ q ∈ bs, q.t.size ≤ 9223372036854775807) :
    Calls Tryz.prog 52 #[.agg #[.slice ap np cp, .slice ab nb cb]] w fun e w' => e = .returned (.bool (poolsF none ps && blocksS ps none bs)) ∧ Below w.heap.size w w' := by
  have HBP := hidP hP
  have HBB := hidP hK
  have HNP := hidP hnp
  have HNB := hidP hnb
  have HST := hidP hst
  clear hP hK hnp hnb hst
  go_enter Tryz.func52, Tryz.ntmps52
  go_wp2_with fail
  obtain ⟨u0, u1⟩ := box2 (u := .slice ap np cp) (v := .slice ab nb cb) w 40
  have uB := alloc_below w (.cells #[.slice ap np cp, .slice ab nb cb] 40)
  have uL := alloc_lt w (.cells #[.slice ap np cp, .slice ab nb cb] 40)
  have uS : (w.alloc (.cells #[.slice ap np cp, .slice ab nb cb] 40)).heap.size = w.heap.size + 1 := by simp
  generalize w.alloc (.cells #[.slice ap np cp, .slice ab nb cb] 40) = W1 at *
  have HUB := hidP uB
  have HP1 := hidP (HBP.out.later uB)
  have HB1 := hidP (HBB.out.later uB)
  clear uB uS HBP HBB
  go_loopw [3] (fun t3 wr => ∃ k : Nat, k ≤ np ∧ t3 = .int .i64 k ∧ poolsF none ps = poolsF (prvP ps k) (ps.drop k) ∧ (∀ r, prvP ps k = some r → r.pk = true) ∧ Below W1.heap.size W1 wr) (fun t3 _ => np - (intOf t3).toNat)
  case atStart => exact ⟨0, Nat.zero_le _, rfl, rfl, (fun r h => by cases h), Below.refl _ _⟩
  case round =>
    obtain ⟨k, hk, rfl, hpo, hpr, hbel⟩ := hrel
    have v0 := (hbel.cell uL).trans u0
    have v1 := (hbel.cell uL).trans u1
    have vL : w.heap.size < wr.heap.size := Nat.lt_of_lt_of_le uL hbel.size
    by_cases hlt : k < np
    · obtain ⟨p, o, q, rfl, hp, hq, c0, c1, c2, c3, c4⟩ := rowPl HP1.out k (by rw [← HNP.out]; exact hlt)
      have d0 := (hbel.cell hp).trans c0
      have d1 := (hbel.cell hp).trans c1
      have d2 := (hbel.cell hp).trans c2
      have d3 := (hbel.cell hp).trans c3
      have d4 := (hbel.cell hp).trans c4
      have dL : p < wr.heap.size := Nat.lt_of_lt_of_le hp hbel.size
      rw [drop_at hq] at hpo
      have hpo' : poolsF none ps = ((okPl q && (match prvP ps k with | none => true | some r => folB r q.p)) && poolsF (some q.p) (ps.drop (k + 1))) := hpo
      have HNx := hidP (prvP_next hq)
      have HPo := hidP hpo'
      have HPr := hidP hpr
      have HBel := hidP hbel
      have HQ1 := hidP (sPoolOk_any q)
      clear c0 c1 c2 c3 c4 hq hpo hpo' hpr hbel
      cases hok : okPl q
      · rw [hok] at HQ1 HPo
        have HF : Hid ((poolsF none ps && blocksS ps none bs) = false) := hidP (by rw [HPo.out]; rfl)
        clear HPo HPr HNx
        go_wp2_with fail
        have HSx : Hid (∀ x, Below wr.heap.size wr x → (x.cell? ⟨w.heap.size, 0, none⟩ = some (.slice (some ⟨p, o, none⟩) np cp) ∧ x.cell? ⟨p, o + k * 5, none⟩ = some (.bool q.p.s) ∧ x.cell? ⟨p, o + k * 5 + 1, none⟩ = some (.int .i64 q.p.H.toInt) ∧ x.cell? ⟨p, o + k * 5 + 2, none⟩ = some (.int .i64 q.p.L.toInt) ∧ x.cell? ⟨p, o + k * 5 + 3, none⟩ = some (.int .i64 q.p.b) ∧ x.cell? ⟨p, o + k * 5 + 4, none⟩ = some (.int .i64 q.n) ∧ Below wr.heap.size wr x)) := hidP fun x h =>
          ⟨(h.cell vL).trans v0, (h.cell dL).trans d0, (h.cell dL).trans d1, (h.cell dL).trans d2, (h.cell dL).trans d3, (h.cell dL).trans d4, h⟩
        refine wp_region_held_drew (S := (fun x => x.cell? ⟨w.heap.size, 0, none⟩ = some (.slice (some ⟨p, o, none⟩) np cp) ∧ x.cell? ⟨p, o + k * 5, none⟩ = some (.bool q.p.s) ∧ x.cell? ⟨p, o + k * 5 + 1, none⟩ = some (.int .i64 q.p.H.toInt) ∧ x.cell? ⟨p, o + k * 5 + 2, none⟩ = some (.int .i64 q.p.L.toInt) ∧ x.cell? ⟨p, o + k * 5 + 3, none⟩ = some (.int .i64 q.p.b) ∧ x.cell? ⟨p, o + k * 5 + 4, none⟩ = some (.int .i64 q.n) ∧ Below wr.heap.size wr x)) (by kernel_rfl) ?_ (fun hHeld => ?_)
        · try dsimp only
          exact HSx.out _ (Below.refl _ _).drew
        refine tk 0 24 rfl ?_; simp only [pa]
        refine tk 1 25 rfl ?_; simp only [pa]
        refine tk 2 26 rfl ?_; simp only [pa]
        refine tk 3 27 rfl ?_; simp only [pa]
        refine tk 4 28 rfl ?_; simp only [pa]
        refine wpAnyH_ready (rs := [5]) (by kernel_rfl) (by simp) ?_
        refine AllReadyH.cons rfl (fun K hK => ?_) AllReadyH.nil
        go_simp
        go_wp2_with (first | (go_at_call 81; refine (HQ1.out _).mono ?_; rintro e w2 ⟨rfl, hb2⟩; have b2 := (hHeld.2.2.2.2.2.2).trans (hb2.mono (hHeld.2.2.2.2.2.2).size)))
        refine hK.out _ _ ?_ (fun hHeld => ?_)
        · try dsimp only
          exact HSx.out _ b2
        clear hK K
        refine tk 6 30 rfl ?_; simp only [pa]
        refine tk 7 31 rfl ?_; simp only [pa]
        refine sk 8 32 rfl ?_; simp only [pa]
        refine sk 9 33 rfl ?_; simp only [pa]
        refine sk 10 34 rfl ?_; simp only [pa]
        refine sk 11 35 rfl ?_; simp only [pa]
        refine sk 12 36 rfl ?_; simp only [pa]
        refine sk 13 37 rfl ?_; simp only [pa]
        refine sk 14 38 rfl ?_; simp only [pa]
        refine sk 15 39 rfl ?_; simp only [pa]
        refine sk 16 40 rfl ?_; simp only [pa]
        refine sk 17 41 rfl ?_; simp only [pa]
        refine sk 18 42 rfl ?_; simp only [pa]
        refine sk 19 43 rfl ?_; simp only [pa]
        refine sk 20 44 rfl ?_; simp only [pa]
        refine sk 21 45 rfl ?_; simp only [pa]
        refine sk 22 46 rfl ?_; simp only [pa]
        refine sk 23 47 rfl ?_; simp only [pa]
        refine sk 24 48 rfl ?_; simp only [pa]
        refine sk 25 49 rfl ?_; simp only [pa]
        refine sk 26 50 rfl ?_; simp only [pa]
        refine sk 27 51 rfl ?_; simp only [pa]
        refine sk 28 52 rfl ?_; simp only [pa]
        refine sk 29 53 rfl ?_; simp only [pa]
        refine sk 30 54 rfl ?_; simp only [pa]
        refine sk 31 55 rfl ?_; simp only [pa]
        refine sk 32 56 rfl ?_; simp only [pa]
        refine sk 33 57 rfl ?_; simp only [pa]
        refine sk 34 58 rfl ?_; simp only [pa]
        refine sk 35 59 rfl ?_; simp only [pa]
        refine sk 36 60 rfl ?_; simp only [pa]
        refine sk 37 61 rfl ?_; simp only [pa]
        refine sk 38 62 rfl ?_; simp only [pa]
        refine sk 39 63 rfl ?_; simp only [pa]
        refine sk 40 64 rfl ?_; simp only [pa]
        refine sk 41 65 rfl ?_; simp only [pa]
        refine sk 42 66 rfl ?_; simp only [pa]
        refine tk 43 67 rfl ?_; simp only [pa]
        have HE := hidP (hHeld.2.2.2.2.2.2)
        refine wpAnyH_done (by kernel_rfl) ?_ _
        clear hHeld
        go_wp2_with fail
        go_ret
        exact ⟨ret_b HF.out.symm, HUB.out.trans ((HBel.out.trans (HE.out.mono HBel.out.size)).mono HUB.out.size)⟩
      · rw [hok] at HQ1 HPo
        have HOk := hidP (okPl_pk hok)
        by_cases hk0 : k = 0
        · have g0 : decide ((0 : Int) < (k : Int)) = false := decide_eq_false (by omega)
          have g1 : decide (0 < k) = false := decide_eq_false (by omega)
          have HF : Hid (poolsF none ps = poolsF (some q.p) (ps.drop (k + 1))) := hidP (by rw [HPo.out, hk0]; rfl)
          clear HPo HPr hk0
          go_wp2_with fail
          have HSx : Hid (∀ x, Below wr.heap.size wr x → (x.cell? ⟨w.heap.size, 0, none⟩ = some (.slice (some ⟨p, o, none⟩) np cp) ∧ x.cell? ⟨p, o + k * 5, none⟩ = some (.bool q.p.s) ∧ x.cell? ⟨p, o + k * 5 + 1, none⟩ = some (.int .i64 q.p.H.toInt) ∧ x.cell? ⟨p, o + k * 5 + 2, none⟩ = some (.int .i64 q.p.L.toInt) ∧ x.cell? ⟨p, o + k * 5 + 3, none⟩ = some (.int .i64 q.p.b) ∧ x.cell? ⟨p, o + k * 5 + 4, none⟩ = some (.int .i64 q.n) ∧ Below wr.heap.size wr x)) := hidP fun x h =>
            ⟨(h.cell vL).trans v0, (h.cell dL).trans d0, (h.cell dL).trans d1, (h.cell dL).trans d2, (h.cell dL).trans d3, (h.cell dL).trans d4, h⟩
          refine wp_region_held_drew (S := (fun x => x.cell? ⟨w.heap.size, 0, none⟩ = some (.slice (some ⟨p, o, none⟩) np cp) ∧ x.cell? ⟨p, o + k * 5, none⟩ = some (.bool q.p.s) ∧ x.cell? ⟨p, o + k * 5 + 1, none⟩ = some (.int .i64 q.p.H.toInt) ∧ x.cell? ⟨p, o + k * 5 + 2, none⟩ = some (.int .i64 q.p.L.toInt) ∧ x.cell? ⟨p, o + k * 5 + 3, none⟩ = some (.int .i64 q.p.b) ∧ x.cell? ⟨p, o + k * 5 + 4, none⟩ = some (.int .i64 q.n) ∧ Below wr.heap.size wr x)) (by kernel_rfl) ?_ (fun hHeld => ?_)
          · try dsimp only
            exact HSx.out _ (Below.refl _ _).drew
          refine tk 0 24 rfl ?_; simp only [pa]
          refine tk 1 25 rfl ?_; simp only [pa]
          refine tk 2 26 rfl ?_; simp only [pa]
          refine tk 3 27 rfl ?_; simp only [pa]
          refine tk 4 28 rfl ?_; simp only [pa]
          refine wpAnyH_ready (rs := [5]) (by kernel_rfl) (by simp) ?_
          refine AllReadyH.cons rfl (fun K hK => ?_) AllReadyH.nil
          go_simp
          go_wp2_with (first | (go_at_call 81; refine (HQ1.out _).mono ?_; rintro e w2 ⟨rfl, hb2⟩; have b2 := (hHeld.2.2.2.2.2.2).trans (hb2.mono (hHeld.2.2.2.2.2.2).size)))
          refine hK.out _ _ ?_ (fun hHeld => ?_)
          · try dsimp only
            exact HSx.out _ b2
          clear hK K
          refine tk 6 30 rfl ?_; simp only [pa]
          refine tk 7 31 rfl ?_; simp only [pa]
          refine tk 8 32 rfl ?_; simp only [pa]
          refine tk 9 33 rfl ?_; simp only [pa]
          refine tk 10 34 rfl ?_; simp only [pa]
          refine sk 11 35 rfl ?_; simp only [pa]
          refine sk 12 36 rfl ?_; simp only [pa]
          refine sk 13 37 rfl ?_; simp only [pa]
          refine sk 14 38 rfl ?_; simp only [pa]
          refine sk 15 39 rfl ?_; simp only [pa]
          refine sk 16 40 rfl ?_; simp only [pa]
          refine sk 17 41 rfl ?_; simp only [pa]
          refine sk 18 42 rfl ?_; simp only [pa]
          refine sk 19 43 rfl ?_; simp only [pa]
          refine sk 20 44 rfl ?_; simp only [pa]
          refine sk 21 45 rfl ?_; simp only [pa]
          refine sk 22 46 rfl ?_; simp only [pa]
          refine sk 23 47 rfl ?_; simp only [pa]
          refine sk 24 48 rfl ?_; simp only [pa]
          refine sk 25 49 rfl ?_; simp only [pa]
          refine sk 26 50 rfl ?_; simp only [pa]
          refine sk 27 51 rfl ?_; simp only [pa]
          refine sk 28 52 rfl ?_; simp only [pa]
          refine sk 29 53 rfl ?_; simp only [pa]
          refine sk 30 54 rfl ?_; simp only [pa]
          refine sk 31 55 rfl ?_; simp only [pa]
          refine sk 32 56 rfl ?_; simp only [pa]
          refine sk 33 57 rfl ?_; simp only [pa]
          refine sk 34 58 rfl ?_; simp only [pa]
          refine sk 35 59 rfl ?_; simp only [pa]
          refine sk 36 60 rfl ?_; simp only [pa]
          refine sk 37 61 rfl ?_; simp only [pa]
          refine sk 38 62 rfl ?_; simp only [pa]
          refine sk 39 63 rfl ?_; simp only [pa]
          refine sk 40 64 rfl ?_; simp only [pa]
          refine sk 41 65 rfl ?_; simp only [pa]
          refine tk 42 66 rfl ?_; simp only [pa]
          refine tk 43 67 rfl ?_; simp only [pa]
          have HE := hidP (hHeld.2.2.2.2.2.2)
          refine wpAnyH_done (by kernel_rfl) ?_ _
          clear hHeld
          go_wp2_with fail
          go_roundw
          case rel => exact ⟨k + 1, by omega, by go_num, by rw [HF.out, HNx.out], (fun r h => by rw [HNx.out] at h; cases h; exact HOk.out), HBel.out.trans (HE.out.mono HBel.out.size)⟩
          case measure => simp [intOf]; omega
        · have g0 : decide ((0 : Int) < (k : Int)) = true := decide_eq_true (by omega)
          have g1 : decide (0 < k) = true := decide_eq_true (by omega)
          obtain ⟨J, hJ⟩ : ∃ J, J = k - 1 := ⟨_, rfl⟩
          have hkJ : k = J + 1 := by omega
          have hJi : (k : Int) - 1 = (J : Int) := by omega
          have hJn : J < np := by omega
          have wJ : IntKind.i64.wrap (J : Int) = (J : Int) := by rw [IntKind.wrap_i64]; omega
          have hJ0 : (0 : Int) ≤ (J : Int) := by omega
          have hJ1 : (J : Int) < (np : Int) := by omega
          obtain ⟨p', o', r, he, hp', hr, c0, c1, c2, c3, c4⟩ := rowPl HP1.out J (by rw [← HNP.out]; exact hJn)
          simp only [Option.some.injEq, Addr.mk.injEq, and_true] at he
          obtain ⟨rfl, rfl⟩ := he
          have hprv : prvP ps k = some r.p := by rw [hkJ]; exact prvP_next hr
          have hrpk : r.p.pk = true := HPr.out _ hprv
          have HPo2 : Hid (poolsF none ps = ((true && folB r.p q.p) && poolsF (some q.p) (ps.drop (k + 1)))) := hidP (by rw [HPo.out, hprv])
          have HC := hidP (sCmpP r.p q.p hrpk HOk.out)
          have HO := hidP (sOverlaps_any r.p.s r.p.H r.p.L r.p.b q.p.s q.p.H q.p.L q.p.b)
          change Hid (∀ w, Calls Tryz.prog 83 _ w fun e w' => e = .returned (.bool (ovP r.p q.p)) ∧ Below w.heap.size w w') at HO
          have e0 := (HBel.out.cell hp').trans c0
          have e1 := (HBel.out.cell hp').trans c1
          have e2 := (HBel.out.cell hp').trans c2
          have e3 := (HBel.out.cell hp').trans c3
          clear c0 c1 c2 c3 c4 hr hprv hrpk hJ hkJ hk0 HPo HPr
          rw [folB_split] at HPo2
          cases hcm : decide (cmpP r.p q.p < 0)
          · have g2 := ge_not hcm
            rw [hcm] at HPo2
            have HF : Hid ((poolsF none ps && blocksS ps none bs) = false) := hidP (by rw [HPo2.out]; rfl)
            clear HPo2 hcm HO
            generalize cmpP r.p q.p = cm at *
            go_wp2_with fail
            have HSx : Hid (∀ x, Below wr.heap.size wr x → (x.cell? ⟨w.heap.size, 0, none⟩ = some (.slice (some ⟨p, o, none⟩) np cp) ∧ x.cell? ⟨p, o + k * 5, none⟩ = some (.bool q.p.s) ∧ x.cell? ⟨p, o + k * 5 + 1, none⟩ = some (.int .i64 q.p.H.toInt) ∧ x.cell? ⟨p, o + k * 5 + 2, none⟩ = some (.int .i64 q.p.L.toInt) ∧ x.cell? ⟨p, o + k * 5 + 3, none⟩ = some (.int .i64 q.p.b) ∧ x.cell? ⟨p, o + k * 5 + 4, none⟩ = some (.int .i64 q.n) ∧ x.cell? ⟨p, o + J * 5, none⟩ = some (.bool r.p.s) ∧ x.cell? ⟨p, o + J * 5 + 1, none⟩ = some (.int .i64 r.p.H.toInt) ∧ x.cell? ⟨p, o + J * 5 + 2, none⟩ = some (.int .i64 r.p.L.toInt) ∧ x.cell? ⟨p, o + J * 5 + 3, none⟩ = some (.int .i64 r.p.b) ∧ Below wr.heap.size wr x)) := hidP fun x h =>
              ⟨(h.cell vL).trans v0, (h.cell dL).trans d0, (h.cell dL).trans d1, (h.cell dL).trans d2, (h.cell dL).trans d3, (h.cell dL).trans d4, (h.cell dL).trans e0, (h.cell dL).trans e1, (h.cell dL).trans e2, (h.cell dL).trans e3, h⟩
            refine wp_region_held_drew (S := (fun x => x.cell? ⟨w.heap.size, 0, none⟩ = some (.slice (some ⟨p, o, none⟩) np cp) ∧ x.cell? ⟨p, o + k * 5, none⟩ = some (.bool q.p.s) ∧ x.cell? ⟨p, o + k * 5 + 1, none⟩ = some (.int .i64 q.p.H.toInt) ∧ x.cell? ⟨p, o + k * 5 + 2, none⟩ = some (.int .i64 q.p.L.toInt) ∧ x.cell? ⟨p, o + k * 5 + 3, none⟩ = some (.int .i64 q.p.b) ∧ x.cell? ⟨p, o + k * 5 + 4, none⟩ = some (.int .i64 q.n) ∧ x.cell? ⟨p, o + J * 5, none⟩ = some (.bool r.p.s) ∧ x.cell? ⟨p, o + J * 5 + 1, none⟩ = some (.int .i64 r.p.H.toInt) ∧ x.cell? ⟨p, o + J * 5 + 2, none⟩ = some (.int .i64 r.p.L.toInt) ∧ x.cell? ⟨p, o + J * 5 + 3, none⟩ = some (.int .i64 r.p.b) ∧ Below wr.heap.size wr x)) (by kernel_rfl) ?_ (fun hHeld => ?_)
            · try dsimp only
              exact HSx.out _ (Below.refl _ _).drew
            refine tk 0 24 rfl ?_; simp only [pa]
            refine tk 1 25 rfl ?_; simp only [pa]
            refine tk 2 26 rfl ?_; simp only [pa]
            refine tk 3 27 rfl ?_; simp only [pa]
            refine tk 4 28 rfl ?_; simp only [pa]
            refine wpAnyH_ready (rs := [5]) (by kernel_rfl) (by simp) ?_
            refine AllReadyH.cons rfl (fun K hK => ?_) AllReadyH.nil
            go_simp
            go_wp2_with (first | (go_at_call 81; refine (HQ1.out _).mono ?_; rintro e w2 ⟨rfl, hb2⟩; have b2 := (hHeld.2.2.2.2.2.2.2.2.2.2).trans (hb2.mono (hHeld.2.2.2.2.2.2.2.2.2.2).size)))
            refine hK.out _ _ ?_ (fun hHeld => ?_)
            · try dsimp only
              exact HSx.out _ b2
            clear hK K
            refine tk 6 30 rfl ?_; simp only [pa]
            refine tk 7 31 rfl ?_; simp only [pa]
            refine tk 8 32 rfl ?_; simp only [pa]
            refine tk 9 33 rfl ?_; simp only [pa]
            refine tk 10 34 rfl ?_; simp only [pa]
            refine tk 11 35 rfl ?_; simp only [pa]
            refine tk 12 36 rfl ?_; simp only [pa]
            refine tk 13 37 rfl ?_; simp only [pa]
            refine tk 14 38 rfl ?_; simp only [pa]
            refine tk 15 39 rfl ?_; simp only [pa]
            refine tk 16 40 rfl ?_; simp only [pa]
            refine tk 17 41 rfl ?_; simp only [pa]
            refine tk 18 42 rfl ?_; simp only [pa]
            refine tk 19 43 rfl ?_; simp only [pa]
            refine tk 20 44 rfl ?_; simp only [pa]
            refine tk 21 45 rfl ?_; simp only [pa]
            refine tk 22 46 rfl ?_; simp only [pa]
            refine tk 23 47 rfl ?_; simp only [pa]
            refine wpAnyH_ready (rs := [24]) (by kernel_rfl) (by simp) ?_
            refine AllReadyH.cons rfl (fun K hK => ?_) AllReadyH.nil
            go_simp
            go_wp2_with (first | (go_at_call 82; refine (HC.out _).mono ?_; rintro e w3 ⟨rfl, hb3⟩; have b3 := (hHeld.2.2.2.2.2.2.2.2.2.2).trans (hb3.mono (hHeld.2.2.2.2.2.2.2.2.2.2).size)))
            refine hK.out _ _ ?_ (fun hHeld => ?_)
            · try dsimp only
              exact HSx.out _ b3
            clear hK K
            refine tk 25 49 rfl ?_; simp only [pa]
            refine tk 26 50 rfl ?_; simp only [pa]
            refine sk 27 51 rfl ?_; simp only [pa]
            refine sk 28 52 rfl ?_; simp only [pa]
            refine sk 29 53 rfl ?_; simp only [pa]
            refine sk 30 54 rfl ?_; simp only [pa]
            refine sk 31 55 rfl ?_; simp only [pa]
            refine sk 32 56 rfl ?_; simp only [pa]
            refine sk 33 57 rfl ?_; simp only [pa]
            refine sk 34 58 rfl ?_; simp only [pa]
            refine sk 35 59 rfl ?_; simp only [pa]
            refine sk 36 60 rfl ?_; simp only [pa]
            refine sk 37 61 rfl ?_; simp only [pa]
            refine sk 38 62 rfl ?_; simp only [pa]
            refine sk 39 63 rfl ?_; simp only [pa]
            refine sk 40 64 rfl ?_; simp only [pa]
            refine tk 41 65 rfl ?_; simp only [pa]
            refine tk 42 66 rfl ?_; simp only [pa]
            refine tk 43 67 rfl ?_; simp only [pa]
            have HE := hidP (hHeld.2.2.2.2.2.2.2.2.2.2)
            refine wpAnyH_done (by kernel_rfl) ?_ _
            clear hHeld
            go_wp2_with fail
            go_ret
            exact ⟨ret_b HF.out.symm, HUB.out.trans ((HBel.out.trans (HE.out.mono HBel.out.size)).mono HUB.out.size)⟩
          · have g2 := ge_not hcm
            rw [hcm] at HPo2
            clear hcm
            generalize cmpP r.p q.p = cm at *
            cases hov : ovP r.p q.p
            · rw [hov] at HPo2 HO
              have HF : Hid (poolsF none ps = poolsF (some q.p) (ps.drop (k + 1))) := hidP (by rw [HPo2.out]; rfl)
              clear HPo2
              go_wp2_with fail
              have HSx : Hid (∀ x, Below wr.heap.size wr x → (x.cell? ⟨w.heap.size, 0, none⟩ = some (.slice (some ⟨p, o, none⟩) np cp) ∧ x.cell? ⟨p, o + k * 5, none⟩ = some (.bool q.p.s) ∧ x.cell? ⟨p, o + k * 5 + 1, none⟩ = some (.int .i64 q.p.H.toInt) ∧ x.cell? ⟨p, o + k * 5 + 2, none⟩ = some (.int .i64 q.p.L.toInt) ∧ x.cell? ⟨p, o + k * 5 + 3, none⟩ = some (.int .i64 q.p.b) ∧ x.cell? ⟨p, o + k * 5 + 4, none⟩ = some (.int .i64 q.n) ∧ x.cell? ⟨p, o + J * 5, none⟩ = some (.bool r.p.s) ∧ x.cell? ⟨p, o + J * 5 + 1, none⟩ = some (.int .i64 r.p.H.toInt) ∧ x.cell? ⟨p, o + J * 5 + 2, none⟩ = some (.int .i64 r.p.L.toInt) ∧ x.cell? ⟨p, o + J * 5 + 3, none⟩ = some (.int .i64 r.p.b) ∧ Below wr.heap.size wr x)) := hidP fun x h =>
                ⟨(h.cell vL).trans v0, (h.cell dL).trans d0, (h.cell dL).trans d1, (h.cell dL).trans d2, (h.cell dL).trans d3, (h.cell dL).trans d4, (h.cell dL).trans e0, (h.cell dL).trans e1, (h.cell dL).trans e2, (h.cell dL).trans e3, h⟩
              refine wp_region_held_drew (S := (fun x => x.cell? ⟨w.heap.size, 0, none⟩ = some (.slice (some ⟨p, o, none⟩) np cp) ∧ x.cell? ⟨p, o + k * 5, none⟩ = some (.bool q.p.s) ∧ x.cell? ⟨p, o + k * 5 + 1, none⟩ = some (.int .i64 q.p.H.toInt) ∧ x.cell? ⟨p, o + k * 5 + 2, none⟩ = some (.int .i64 q.p.L.toInt) ∧ x.cell? ⟨p, o + k * 5 + 3, none⟩ = some (.int .i64 q.p.b) ∧ x.cell? ⟨p, o + k * 5 + 4, none⟩ = some (.int .i64 q.n) ∧ x.cell? ⟨p, o + J * 5, none⟩ = some (.bool r.p.s) ∧ x.cell? ⟨p, o + J * 5 + 1, none⟩ = some (.int .i64 r.p.H.toInt) ∧ x.cell? ⟨p, o + J * 5 + 2, none⟩ = some (.int .i64 r.p.L.toInt) ∧ x.cell? ⟨p, o + J * 5 + 3, none⟩ = some (.int .i64 r.p.b) ∧ Below wr.heap.size wr x)) (by kernel_rfl) ?_ (fun hHeld => ?_)
              · try dsimp only
                exact HSx.out _ (Below.refl _ _).drew
              refine tk 0 24 rfl ?_; simp only [pa]
              refine tk 1 25 rfl ?_; simp only [pa]
              refine tk 2 26 rfl ?_; simp only [pa]
              refine tk 3 27 rfl ?_; simp only [pa]
              refine tk 4 28 rfl ?_; simp only [pa]
              refine wpAnyH_ready (rs := [5]) (by kernel_rfl) (by simp) ?_
              refine AllReadyH.cons rfl (fun K hK => ?_) AllReadyH.nil
              go_simp
              go_wp2_with (first | (go_at_call 81; refine (HQ1.out _).mono ?_; rintro e w2 ⟨rfl, hb2⟩; have b2 := (hHeld.2.2.2.2.2.2.2.2.2.2).trans (hb2.mono (hHeld.2.2.2.2.2.2.2.2.2.2).size)))
              refine hK.out _ _ ?_ (fun hHeld => ?_)
              · try dsimp only
                exact HSx.out _ b2
              clear hK K
              refine tk 6 30 rfl ?_; simp only [pa]
              refine tk 7 31 rfl ?_; simp only [pa]
              refine tk 8 32 rfl ?_; simp only [pa]
              refine tk 9 33 rfl ?_; simp only [pa]
              refine tk 10 34 rfl ?_; simp only [pa]
              refine tk 11 35 rfl ?_; simp only [pa]
              refine tk 12 36 rfl ?_; simp only [pa]
              refine tk 13 37 rfl ?_; simp only [pa]
              refine tk 14 38 rfl ?_; simp only [pa]
              refine tk 15 39 rfl ?_; simp only [pa]
              refine tk 16 40 rfl ?_; simp only [pa]
              refine tk 17 41 rfl ?_; simp only [pa]
              refine tk 18 42 rfl ?_; simp only [pa]
              refine tk 19 43 rfl ?_; simp only [pa]
              refine tk 20 44 rfl ?_; simp only [pa]
              refine tk 21 45 rfl ?_; simp only [pa]
              refine tk 22 46 rfl ?_; simp only [pa]
              refine tk 23 47 rfl ?_; simp only [pa]
              refine wpAnyH_ready (rs := [24]) (by kernel_rfl) (by simp) ?_
              refine AllReadyH.cons rfl (fun K hK => ?_) AllReadyH.nil
              go_simp
              go_wp2_with (first | (go_at_call 82; refine (HC.out _).mono ?_; rintro e w3 ⟨rfl, hb3⟩; have b3 := (hHeld.2.2.2.2.2.2.2.2.2.2).trans (hb3.mono (hHeld.2.2.2.2.2.2.2.2.2.2).size)))
              refine hK.out _ _ ?_ (fun hHeld => ?_)
              · try dsimp only
                exact HSx.out _ b3
              clear hK K
              refine tk 25 49 rfl ?_; simp only [pa]
              refine tk 26 50 rfl ?_; simp only [pa]
              refine tk 27 51 rfl ?_; simp only [pa]
              refine tk 28 52 rfl ?_; simp only [pa]
              refine tk 29 53 rfl ?_; simp only [pa]
              refine tk 30 54 rfl ?_; simp only [pa]
              refine tk 31 55 rfl ?_; simp only [pa]
              refine tk 32 56 rfl ?_; simp only [pa]
              refine tk 33 57 rfl ?_; simp only [pa]
              refine tk 34 58 rfl ?_; simp only [pa]
              refine tk 35 59 rfl ?_; simp only [pa]
              refine tk 36 60 rfl ?_; simp only [pa]
              refine tk 37 61 rfl ?_; simp only [pa]
              refine tk 38 62 rfl ?_; simp only [pa]
              refine tk 39 63 rfl ?_; simp only [pa]
              refine wpAnyH_ready (rs := [40]) (by kernel_rfl) (by simp) ?_
              refine AllReadyH.cons rfl (fun K hK => ?_) AllReadyH.nil
              go_simp
              go_wp2_with (first | (go_at_call 83; refine (HO.out _).mono ?_; rintro e w4 ⟨rfl, hb4⟩; have b4 := (hHeld.2.2.2.2.2.2.2.2.2.2).trans (hb4.mono (hHeld.2.2.2.2.2.2.2.2.2.2).size)))
              refine hK.out _ _ ?_ (fun hHeld => ?_)
              · try dsimp only
                exact HSx.out _ b4
              clear hK K
              refine tk 41 65 rfl ?_; simp only [pa]
              refine tk 42 66 rfl ?_; simp only [pa]
              refine tk 43 67 rfl ?_; simp only [pa]
              have HE := hidP (hHeld.2.2.2.2.2.2.2.2.2.2)
              refine wpAnyH_done (by kernel_rfl) ?_ _
              clear hHeld
              go_wp2_with fail
              go_roundw
              case rel => exact ⟨k + 1, by omega, by go_num, by rw [HF.out, HNx.out], (fun r h => by rw [HNx.out] at h; cases h; exact HOk.out), HBel.out.trans (HE.out.mono HBel.out.size)⟩
              case measure => simp [intOf]; omega
            · rw [hov] at HPo2 HO
              have HF : Hid ((poolsF none ps && blocksS ps none bs) = false) := hidP (by rw [HPo2.out]; rfl)
              clear HPo2
              go_wp2_with fail
              have HSx : Hid (∀ x, Below wr.heap.size wr x → (x.cell? ⟨w.heap.size, 0, none⟩ = some (.slice (some ⟨p, o, none⟩) np cp) ∧ x.cell? ⟨p, o + k * 5, none⟩ = some (.bool q.p.s) ∧ x.cell? ⟨p, o + k * 5 + 1, none⟩ = some (.int .i64 q.p.H.toInt) ∧ x.cell? ⟨p, o + k * 5 + 2, none⟩ = some (.int .i64 q.p.L.toInt) ∧ x.cell? ⟨p, o + k * 5 + 3, none⟩ = some (.int .i64 q.p.b) ∧ x.cell? ⟨p, o + k * 5 + 4, none⟩ = some (.int .i64 q.n) ∧ x.cell? ⟨p, o + J * 5, none⟩ = some (.bool r.p.s) ∧ x.cell? ⟨p, o + J * 5 + 1, none⟩ = some (.int .i64 r.p.H.toInt) ∧ x.cell? ⟨p, o + J * 5 + 2, none⟩ = some (.int .i64 r.p.L.toInt) ∧ x.cell? ⟨p, o + J * 5 + 3, none⟩ = some (.int .i64 r.p.b) ∧ Below wr.heap.size wr x)) := hidP fun x h =>
                ⟨(h.cell vL).trans v0, (h.cell dL).trans d0, (h.cell dL).trans d1, (h.cell dL).trans d2, (h.cell dL).trans d3, (h.cell dL).trans d4, (h.cell dL).trans e0, (h.cell dL).trans e1, (h.cell dL).trans e2, (h.cell dL).trans e3, h⟩
              refine wp_region_held_drew (S := (fun x => x.cell? ⟨w.heap.size, 0, none⟩ = some (.slice (some ⟨p, o, none⟩) np cp) ∧ x.cell? ⟨p, o + k * 5, none⟩ = some (.bool q.p.s) ∧ x.cell? ⟨p, o + k * 5 + 1, none⟩ = some (.int .i64 q.p.H.toInt) ∧ x.cell? ⟨p, o + k * 5 + 2, none⟩ = some (.int .i64 q.p.L.toInt) ∧ x.cell? ⟨p, o + k * 5 + 3, none⟩ = some (.int .i64 q.p.b) ∧ x.cell? ⟨p, o + k * 5 + 4, none⟩ = some (.int .i64 q.n) ∧ x.cell? ⟨p, o + J * 5, none⟩ = some (.bool r.p.s) ∧ x.cell? ⟨p, o + J * 5 + 1, none⟩ = some (.int .i64 r.p.H.toInt) ∧ x.cell? ⟨p, o + J * 5 + 2, none⟩ = some (.int .i64 r.p.L.toInt) ∧ x.cell? ⟨p, o + J * 5 + 3, none⟩ = some (.int .i64 r.p.b) ∧ Below wr.heap.size wr x)) (by kernel_rfl) ?_ (fun hHeld => ?_)
              · try dsimp only
                exact HSx.out _ (Below.refl _ _).drew
              refine tk 0 24 rfl ?_; simp only [pa]
              refine tk 1 25 rfl ?_; simp only [pa]
              refine tk 2 26 rfl ?_; simp only [pa]
              refine tk 3 27 rfl ?_; simp only [pa]
              refine tk 4 28 rfl ?_; simp only [pa]
              refine wpAnyH_ready (rs := [5]) (by kernel_rfl) (by simp) ?_
              refine AllReadyH.cons rfl (fun K hK => ?_) AllReadyH.nil
              go_simp
              go_wp2_with (first | (go_at_call 81; refine (HQ1.out _).mono ?_; rintro e w2 ⟨rfl, hb2⟩; have b2 := (hHeld.2.2.2.2.2.2.2.2.2.2).trans (hb2.mono (hHeld.2.2.2.2.2.2.2.2.2.2).size)))
              refine hK.out _ _ ?_ (fun hHeld => ?_)
              · try dsimp only
                exact HSx.out _ b2
              clear hK K
              refine tk 6 30 rfl ?_; simp only [pa]
              refine tk 7 31 rfl ?_; simp only [pa]
              refine tk 8 32 rfl ?_; simp only [pa]
              refine tk 9 33 rfl ?_; simp only [pa]
              refine tk 10 34 rfl ?_; simp only [pa]
              refine tk 11 35 rfl ?_; simp only [pa]
              refine tk 12 36 rfl ?_; simp only [pa]
              refine tk 13 37 rfl ?_; simp only [pa]
              refine tk 14 38 rfl ?_; simp only [pa]
              refine tk 15 39 rfl ?_; simp only [pa]
              refine tk 16 40 rfl ?_; simp only [pa]
              refine tk 17 41 rfl ?_; simp only [pa]
              refine tk 18 42 rfl ?_; simp only [pa]
              refine tk 19 43 rfl ?_; simp only [pa]
              refine tk 20 44 rfl ?_; simp only [pa]
              refine tk 21 45 rfl ?_; simp only [pa]
              refine tk 22 46 rfl ?_; simp only [pa]
              refine tk 23 47 rfl ?_; simp only [pa]
              refine wpAnyH_ready (rs := [24]) (by kernel_rfl) (by simp) ?_
              refine AllReadyH.cons rfl (fun K hK => ?_) AllReadyH.nil
              go_simp
              go_wp2_with (first | (go_at_call 82; refine (HC.out _).mono ?_; rintro e w3 ⟨rfl, hb3⟩; have b3 := (hHeld.2.2.2.2.2.2.2.2.2.2).trans (hb3.mono (hHeld.2.2.2.2.2.2.2.2.2.2).size)))
              refine hK.out _ _ ?_ (fun hHeld => ?_)
              · try dsimp only
                exact HSx.out _ b3
              clear hK K
              refine tk 25 49 rfl ?_; simp only [pa]
              refine tk 26 50 rfl ?_; simp only [pa]
              refine tk 27 51 rfl ?_; simp only [pa]
              refine tk 28 52 rfl ?_; simp only [pa]
              refine tk 29 53 rfl ?_; simp only [pa]
              refine tk 30 54 rfl ?_; simp only [pa]
              refine tk 31 55 rfl ?_; simp only [pa]
              refine tk 32 56 rfl ?_; simp only [pa]
              refine tk 33 57 rfl ?_; simp only [pa]
              refine tk 34 58 rfl ?_; simp only [pa]
              refine tk 35 59 rfl ?_; simp only [pa]
              refine tk 36 60 rfl ?_; simp only [pa]
              refine tk 37 61 rfl ?_; simp only [pa]
              refine tk 38 62 rfl ?_; simp only [pa]
              refine tk 39 63 rfl ?_; simp only [pa]
              refine wpAnyH_ready (rs := [40]) (by kernel_rfl) (by simp) ?_
              refine AllReadyH.cons rfl (fun K hK => ?_) AllReadyH.nil
              go_simp
              go_wp2_with (first | (go_at_call 83; refine (HO.out _).mono ?_; rintro e w4 ⟨rfl, hb4⟩; have b4 := (hHeld.2.2.2.2.2.2.2.2.2.2).trans (hb4.mono (hHeld.2.2.2.2.2.2.2.2.2.2).size)))
              refine hK.out _ _ ?_ (fun hHeld => ?_)
              · try dsimp only
                exact HSx.out _ b4
              clear hK K
              refine tk 41 65 rfl ?_; simp only [pa]
              refine tk 42 66 rfl ?_; simp only [pa]
              refine tk 43 67 rfl ?_; simp only [pa]
              have HE := hidP (hHeld.2.2.2.2.2.2.2.2.2.2)
              refine wpAnyH_done (by kernel_rfl) ?_ _
              clear hHeld
              go_wp2_with fail
              go_ret
              exact ⟨ret_b HF.out.symm, HUB.out.trans ((HBel.out.trans (HE.out.mono HBel.out.size)).mono HUB.out.size)⟩
    · have HPT : Hid (poolsF none ps = true) := by
        rw [List.drop_of_length_le (by have := HNP.out; omega)] at hpo
        exact hidP hpo
      have HBel0 := hidP hbel
      clear hbel hpo hpr
      go_wp2_with fail
      have HPW := hidP (HP1.out.later HBel0.out)
      have HBW := hidP (HB1.out.later HBel0.out)
      go_loopw [4, 5, 6] (fun t4 _ _ ws => ∃ k : Nat, k ≤ nb ∧ t4 = .int .i64 k ∧ blocksS ps none bs = blocksS ps (prvB bs k) (bs.drop k) ∧ (∀ r, prvB bs k = some r → r.pk = true) ∧ Below wr.heap.size wr ws) (fun t4 _ _ _ => nb - (intOf t4).toNat)
      case atStart => exact ⟨0, Nat.zero_le _, rfl, rfl, (fun r h => by cases h), Below.refl _ _⟩
      case round =>
        obtain ⟨i, hi, rfl, hpo, hpr, hbel⟩ := hrel
        have s0 := (hbel.cell vL).trans v0
        have s1 := (hbel.cell vL).trans v1
        have sL : w.heap.size < wr.heap.size := Nat.lt_of_lt_of_le vL hbel.size
        clear v0 v1 vL
        by_cases hlt2 : i < nb
        · obtain ⟨p, o, q, rfl, hp, hq, c0, c1, c2, c3, c4⟩ := rowBk HBW.out i (by rw [← HNB.out]; exact hlt2)
          have d0 := (hbel.cell hp).trans c0
          have d1 := (hbel.cell hp).trans c1
          have d2 := (hbel.cell hp).trans c2
          have d3 := (hbel.cell hp).trans c3
          have d4 := (hbel.cell hp).trans c4
          have dL : p < wr.heap.size := Nat.lt_of_lt_of_le hp hbel.size
          rw [drop_at hq] at hpo
          have hpo' : blocksS ps none bs = (((((q.p.pk && ownB q.t) && decide (0 ≤ lpF q.p 0 ps)) && (bitsAt ps (lpF q.p 0 ps) == q.p.b)) && (match prvB bs i with | none => true | some r => decide (cmpP r q.p < 0))) && blocksS ps (some q.p) (bs.drop (i + 1))) := hpo
          have HNx := hidP (prvB_next hq)
          have HPo := hidP hpo'
          have HPr := hidP hpr
          have HBel := hidP hbel
          have HQ1 := hidP (sPrefixOk_any q.p.s q.p.H q.p.L q.p.b)
          change Hid (∀ w, Calls Tryz.prog 85 _ w fun e w' => e = .returned (.bool q.p.pk) ∧ Below w.heap.size w w') at HQ1
          have HOw := hidP (fun w => sOwnerOk_any q.t w (HST.out q (List.mem_of_getElem? hq)))
          have HL := hidP (fun W h => l5Pool_any q.p ap np cp (some ⟨p, o, none⟩) nb cb ps W HNP.out (HPW.out.later h) (by omega))
          clear c0 c1 c2 c3 c4 hq hpo hpo' hpr hbel
          cases hpk : q.p.pk
          · rw [hpk] at HQ1 HPo
            have HF : Hid ((poolsF none ps && blocksS ps none bs) = false) := hidP (by rw [HPo.out]; simp)
            generalize lpF q.p 0 ps = K at *
            clear HPo HPr HNx HPT
            go_wp2_with fail
            obtain ⟨x0, x1, x2, x3, x4⟩ := boxBk (q := q) wr 71
            have xB := alloc_below wr (.cells #[.bool q.p.s, .int .i64 q.p.H.toInt, .int .i64 q.p.L.toInt, .int .i64 q.p.b, .string q.t] 71)
            have xL := alloc_lt wr (.cells #[.bool q.p.s, .int .i64 q.p.H.toInt, .int .i64 q.p.L.toInt, .int .i64 q.p.b, .string q.t] 71)
            have xS : (wr.alloc (.cells #[.bool q.p.s, .int .i64 q.p.H.toInt, .int .i64 q.p.L.toInt, .int .i64 q.p.b, .string q.t] 71)).heap.size = wr.heap.size + 1 := by simp
            generalize wr.alloc (.cells #[.bool q.p.s, .int .i64 q.p.H.toInt, .int .i64 q.p.L.toInt, .int .i64 q.p.b, .string q.t] 71) = W2 at *
            have n0 := (xB.cell sL).trans s0
            have n1 := (xB.cell sL).trans s1
            have nL : w.heap.size < W2.heap.size := Nat.lt_of_lt_of_le sL xB.size
            have HXB := hidP xB
            clear xS xB
            go_wp2_with fail
            refine (HL.out W2 (HBel.out.trans (HXB.out.mono HBel.out.size))).mono ?_
            rintro e w3 ⟨rfl, hb3⟩
            have x0' := (hb3.cell xL).trans x0
            have x1' := (hb3.cell xL).trans x1
            have x2' := (hb3.cell xL).trans x2
            have x3' := (hb3.cell xL).trans x3
            have x4' := (hb3.cell xL).trans x4
            have xL' : wr.heap.size < w3.heap.size := Nat.lt_of_lt_of_le xL hb3.size
            have n0' := (hb3.cell nL).trans n0
            have n1' := (hb3.cell nL).trans n1
            have nL' : w.heap.size < w3.heap.size := Nat.lt_of_lt_of_le nL hb3.size
            have HB3 := hidP hb3
            clear x0 x1 x2 x3 x4 n0 n1 hb3 d0 d1 d2 d3 d4 s0 s1
            go_wp2_with fail
            have HSx : Hid (∀ x, Below w3.heap.size w3 x → (x.cell? ⟨wr.heap.size, 0, none⟩ = some (.bool q.p.s) ∧ x.cell? ⟨wr.heap.size, 1, none⟩ = some (.int .i64 q.p.H.toInt) ∧ x.cell? ⟨wr.heap.size, 2, none⟩ = some (.int .i64 q.p.L.toInt) ∧ x.cell? ⟨wr.heap.size, 3, none⟩ = some (.int .i64 q.p.b) ∧ x.cell? ⟨wr.heap.size, 4, none⟩ = some (.string q.t) ∧ x.cell? ⟨w.heap.size, 0, none⟩ = some (.slice ap np cp) ∧ x.cell? ⟨w.heap.size, 1, none⟩ = some (.slice (some ⟨p, o, none⟩) nb cb) ∧ Below w3.heap.size w3 x)) := hidP fun x h =>
              ⟨(h.cell xL').trans x0', (h.cell xL').trans x1', (h.cell xL').trans x2', (h.cell xL').trans x3', (h.cell xL').trans x4', (h.cell nL').trans n0', (h.cell nL').trans n1', h⟩
            refine wp_region_held_drew (S := (fun x => x.cell? ⟨wr.heap.size, 0, none⟩ = some (.bool q.p.s) ∧ x.cell? ⟨wr.heap.size, 1, none⟩ = some (.int .i64 q.p.H.toInt) ∧ x.cell? ⟨wr.heap.size, 2, none⟩ = some (.int .i64 q.p.L.toInt) ∧ x.cell? ⟨wr.heap.size, 3, none⟩ = some (.int .i64 q.p.b) ∧ x.cell? ⟨wr.heap.size, 4, none⟩ = some (.string q.t) ∧ x.cell? ⟨w.heap.size, 0, none⟩ = some (.slice ap np cp) ∧ x.cell? ⟨w.heap.size, 1, none⟩ = some (.slice (some ⟨p, o, none⟩) nb cb) ∧ Below w3.heap.size w3 x)) (by kernel_rfl) ?_ (fun hHeld => ?_)
            · try dsimp only
              exact HSx.out _ (Below.refl _ _).drew
            refine tk 0 84 rfl ?_; simp only [pa]
            refine tk 1 85 rfl ?_; simp only [pa]
            refine wpAnyH_ready (rs := [2]) (by kernel_rfl) (by simp) ?_
            refine AllReadyH.cons rfl (fun K hK => ?_) AllReadyH.nil
            go_simp
            go_wp2_with (first | (go_at_call 85; refine (HQ1.out _).mono ?_; rintro e w5 ⟨rfl, hb5⟩; have b5 := (hHeld.2.2.2.2.2.2.2).trans (hb5.mono (hHeld.2.2.2.2.2.2.2).size)))
            refine hK.out _ _ ?_ (fun hHeld => ?_)
            · try dsimp only
              exact HSx.out _ b5
            clear hK K
            refine tk 3 87 rfl ?_; simp only [pa]
            refine tk 4 88 rfl ?_; simp only [pa]
            refine sk 5 89 rfl ?_; simp only [pa]
            refine sk 6 90 rfl ?_; simp only [pa]
            refine sk 7 91 rfl ?_; simp only [pa]
            refine sk 8 92 rfl ?_; simp only [pa]
            refine tk 9 93 rfl ?_; simp only [pa]
            refine tk 10 94 rfl ?_; simp only [pa]
            refine sk 11 95 rfl ?_; simp only [pa]
            refine sk 12 96 rfl ?_; simp only [pa]
            refine tk 13 97 rfl ?_; simp only [pa]
            refine tk 14 98 rfl ?_; simp only [pa]
            refine sk 15 99 rfl ?_; simp only [pa]
            refine sk 16 100 rfl ?_; simp only [pa]
            refine sk 17 101 rfl ?_; simp only [pa]
            refine sk 18 102 rfl ?_; simp only [pa]
            refine sk 19 103 rfl ?_; simp only [pa]
            refine sk 20 104 rfl ?_; simp only [pa]
            refine sk 21 105 rfl ?_; simp only [pa]
            refine sk 22 106 rfl ?_; simp only [pa]
            refine sk 23 107 rfl ?_; simp only [pa]
            refine sk 24 108 rfl ?_; simp only [pa]
            refine tk 25 109 rfl ?_; simp only [pa]
            refine tk 26 110 rfl ?_; simp only [pa]
            refine sk 27 111 rfl ?_; simp only [pa]
            refine sk 28 112 rfl ?_; simp only [pa]
            refine sk 29 113 rfl ?_; simp only [pa]
            refine sk 30 114 rfl ?_; simp only [pa]
            refine sk 31 115 rfl ?_; simp only [pa]
            refine sk 32 116 rfl ?_; simp only [pa]
            refine sk 33 117 rfl ?_; simp only [pa]
            refine sk 34 118 rfl ?_; simp only [pa]
            refine sk 35 119 rfl ?_; simp only [pa]
            refine sk 36 120 rfl ?_; simp only [pa]
            refine sk 37 121 rfl ?_; simp only [pa]
            refine sk 38 122 rfl ?_; simp only [pa]
            refine sk 39 123 rfl ?_; simp only [pa]
            refine sk 40 124 rfl ?_; simp only [pa]
            refine sk 41 125 rfl ?_; simp only [pa]
            refine tk 42 126 rfl ?_; simp only [pa]
            have HE := hidP (hHeld.2.2.2.2.2.2.2)
            refine wpAnyH_done (by kernel_rfl) ?_ _
            clear hHeld
            go_wp2_with fail
            go_ret
            exact ⟨ret_b HF.out.symm, HUB.out.trans ((HBel0.out.trans ((HBel.out.trans ((below_box HXB.out HXB.out.size HB3.out HE.out).mono HBel.out.size)).mono HBel0.out.size)).mono HUB.out.size)⟩
          · rw [hpk] at HQ1 HPo
            have HPk := hidP hpk
            cases how : ownB q.t
            · rw [how] at HOw HPo
              have HF : Hid ((poolsF none ps && blocksS ps none bs) = false) := hidP (by rw [HPo.out]; simp)
              generalize lpF q.p 0 ps = K at *
              clear HPo HPr HNx HPT
              go_wp2_with fail
              obtain ⟨x0, x1, x2, x3, x4⟩ := boxBk (q := q) wr 71
              have xB := alloc_below wr (.cells #[.bool q.p.s, .int .i64 q.p.H.toInt, .int .i64 q.p.L.toInt, .int .i64 q.p.b, .string q.t] 71)
              have xL := alloc_lt wr (.cells #[.bool q.p.s, .int .i64 q.p.H.toInt, .int .i64 q.p.L.toInt, .int .i64 q.p.b, .string q.t] 71)
              have xS : (wr.alloc (.cells #[.bool q.p.s, .int .i64 q.p.H.toInt, .int .i64 q.p.L.toInt, .int .i64 q.p.b, .string q.t] 71)).heap.size = wr.heap.size + 1 := by simp
              generalize wr.alloc (.cells #[.bool q.p.s, .int .i64 q.p.H.toInt, .int .i64 q.p.L.toInt, .int .i64 q.p.b, .string q.t] 71) = W2 at *
              have n0 := (xB.cell sL).trans s0
              have n1 := (xB.cell sL).trans s1
              have nL : w.heap.size < W2.heap.size := Nat.lt_of_lt_of_le sL xB.size
              have HXB := hidP xB
              clear xS xB
              go_wp2_with fail
              refine (HL.out W2 (HBel.out.trans (HXB.out.mono HBel.out.size))).mono ?_
              rintro e w3 ⟨rfl, hb3⟩
              have x0' := (hb3.cell xL).trans x0
              have x1' := (hb3.cell xL).trans x1
              have x2' := (hb3.cell xL).trans x2
              have x3' := (hb3.cell xL).trans x3
              have x4' := (hb3.cell xL).trans x4
              have xL' : wr.heap.size < w3.heap.size := Nat.lt_of_lt_of_le xL hb3.size
              have n0' := (hb3.cell nL).trans n0
              have n1' := (hb3.cell nL).trans n1
              have nL' : w.heap.size < w3.heap.size := Nat.lt_of_lt_of_le nL hb3.size
              have HB3 := hidP hb3
              clear x0 x1 x2 x3 x4 n0 n1 hb3 d0 d1 d2 d3 d4 s0 s1
              go_wp2_with fail
              have HSx : Hid (∀ x, Below w3.heap.size w3 x → (x.cell? ⟨wr.heap.size, 0, none⟩ = some (.bool q.p.s) ∧ x.cell? ⟨wr.heap.size, 1, none⟩ = some (.int .i64 q.p.H.toInt) ∧ x.cell? ⟨wr.heap.size, 2, none⟩ = some (.int .i64 q.p.L.toInt) ∧ x.cell? ⟨wr.heap.size, 3, none⟩ = some (.int .i64 q.p.b) ∧ x.cell? ⟨wr.heap.size, 4, none⟩ = some (.string q.t) ∧ x.cell? ⟨w.heap.size, 0, none⟩ = some (.slice ap np cp) ∧ x.cell? ⟨w.heap.size, 1, none⟩ = some (.slice (some ⟨p, o, none⟩) nb cb) ∧ Below w3.heap.size w3 x)) := hidP fun x h =>
                ⟨(h.cell xL').trans x0', (h.cell xL').trans x1', (h.cell xL').trans x2', (h.cell xL').trans x3', (h.cell xL').trans x4', (h.cell nL').trans n0', (h.cell nL').trans n1', h⟩
              refine wp_region_held_drew (S := (fun x => x.cell? ⟨wr.heap.size, 0, none⟩ = some (.bool q.p.s) ∧ x.cell? ⟨wr.heap.size, 1, none⟩ = some (.int .i64 q.p.H.toInt) ∧ x.cell? ⟨wr.heap.size, 2, none⟩ = some (.int .i64 q.p.L.toInt) ∧ x.cell? ⟨wr.heap.size, 3, none⟩ = some (.int .i64 q.p.b) ∧ x.cell? ⟨wr.heap.size, 4, none⟩ = some (.string q.t) ∧ x.cell? ⟨w.heap.size, 0, none⟩ = some (.slice ap np cp) ∧ x.cell? ⟨w.heap.size, 1, none⟩ = some (.slice (some ⟨p, o, none⟩) nb cb) ∧ Below w3.heap.size w3 x)) (by kernel_rfl) ?_ (fun hHeld => ?_)
              · try dsimp only
                exact HSx.out _ (Below.refl _ _).drew
              refine tk 0 84 rfl ?_; simp only [pa]
              refine tk 1 85 rfl ?_; simp only [pa]
              refine wpAnyH_ready (rs := [2]) (by kernel_rfl) (by simp) ?_
              refine AllReadyH.cons rfl (fun K hK => ?_) AllReadyH.nil
              go_simp
              go_wp2_with (first | (go_at_call 85; refine (HQ1.out _).mono ?_; rintro e w5 ⟨rfl, hb5⟩; have b5 := (hHeld.2.2.2.2.2.2.2).trans (hb5.mono (hHeld.2.2.2.2.2.2.2).size)))
              refine hK.out _ _ ?_ (fun hHeld => ?_)
              · try dsimp only
                exact HSx.out _ b5
              clear hK K
              refine tk 3 87 rfl ?_; simp only [pa]
              refine tk 4 88 rfl ?_; simp only [pa]
              refine tk 5 89 rfl ?_; simp only [pa]
              refine tk 6 90 rfl ?_; simp only [pa]
              refine wpAnyH_ready (rs := [7]) (by kernel_rfl) (by simp) ?_
              refine AllReadyH.cons rfl (fun K hK => ?_) AllReadyH.nil
              go_simp
              go_wp2_with (first | (go_at_call 86; refine (HOw.out _).mono ?_; rintro e w' ⟨rfl, rfl⟩))
              refine hK.out _ _ ?_ (fun hHeld => ?_)
              · try dsimp only
                exact HSx.out _ (hHeld.2.2.2.2.2.2.2)
              clear hK K
              refine tk 8 92 rfl ?_; simp only [pa]
              refine tk 9 93 rfl ?_; simp only [pa]
              refine tk 10 94 rfl ?_; simp only [pa]
              refine sk 11 95 rfl ?_; simp only [pa]
              refine sk 12 96 rfl ?_; simp only [pa]
              refine tk 13 97 rfl ?_; simp only [pa]
              refine tk 14 98 rfl ?_; simp only [pa]
              refine sk 15 99 rfl ?_; simp only [pa]
              refine sk 16 100 rfl ?_; simp only [pa]
              refine sk 17 101 rfl ?_; simp only [pa]
              refine sk 18 102 rfl ?_; simp only [pa]
              refine sk 19 103 rfl ?_; simp only [pa]
              refine sk 20 104 rfl ?_; simp only [pa]
              refine sk 21 105 rfl ?_; simp only [pa]
              refine sk 22 106 rfl ?_; simp only [pa]
              refine sk 23 107 rfl ?_; simp only [pa]
              refine sk 24 108 rfl ?_; simp only [pa]
              refine tk 25 109 rfl ?_; simp only [pa]
              refine tk 26 110 rfl ?_; simp only [pa]
              refine sk 27 111 rfl ?_; simp only [pa]
              refine sk 28 112 rfl ?_; simp only [pa]
              refine sk 29 113 rfl ?_; simp only [pa]
              refine sk 30 114 rfl ?_; simp only [pa]
              refine sk 31 115 rfl ?_; simp only [pa]
              refine sk 32 116 rfl ?_; simp only [pa]
              refine sk 33 117 rfl ?_; simp only [pa]
              refine sk 34 118 rfl ?_; simp only [pa]
              refine sk 35 119 rfl ?_; simp only [pa]
              refine sk 36 120 rfl ?_; simp only [pa]
              refine sk 37 121 rfl ?_; simp only [pa]
              refine sk 38 122 rfl ?_; simp only [pa]
              refine sk 39 123 rfl ?_; simp only [pa]
              refine sk 40 124 rfl ?_; simp only [pa]
              refine sk 41 125 rfl ?_; simp only [pa]
              refine tk 42 126 rfl ?_; simp only [pa]
              have HE := hidP (hHeld.2.2.2.2.2.2.2)
              refine wpAnyH_done (by kernel_rfl) ?_ _
              clear hHeld
              go_wp2_with fail
              go_ret
              exact ⟨ret_b HF.out.symm, HUB.out.trans ((HBel0.out.trans ((HBel.out.trans ((below_box HXB.out HXB.out.size HB3.out HE.out).mono HBel.out.size)).mono HBel0.out.size)).mono HUB.out.size)⟩
            · rw [how] at HOw HPo
              rcases lpF_lt q.p ps 0 with hlp' | ⟨j, pq, hlp', hx⟩
              · have hlp0 : lpF q.p 0 ps = -1 := hlp'
                rw [hlp0] at HL HPo
                have HF : Hid ((poolsF none ps && blocksS ps none bs) = false) := hidP (by rw [HPo.out]; simp)
                clear HPo HPr HNx HPT hlp' hlp0
                go_wp2_with fail
                obtain ⟨x0, x1, x2, x3, x4⟩ := boxBk (q := q) wr 71
                have xB := alloc_below wr (.cells #[.bool q.p.s, .int .i64 q.p.H.toInt, .int .i64 q.p.L.toInt, .int .i64 q.p.b, .string q.t] 71)
                have xL := alloc_lt wr (.cells #[.bool q.p.s, .int .i64 q.p.H.toInt, .int .i64 q.p.L.toInt, .int .i64 q.p.b, .string q.t] 71)
                have xS : (wr.alloc (.cells #[.bool q.p.s, .int .i64 q.p.H.toInt, .int .i64 q.p.L.toInt, .int .i64 q.p.b, .string q.t] 71)).heap.size = wr.heap.size + 1 := by simp
                generalize wr.alloc (.cells #[.bool q.p.s, .int .i64 q.p.H.toInt, .int .i64 q.p.L.toInt, .int .i64 q.p.b, .string q.t] 71) = W2 at *
                have n0 := (xB.cell sL).trans s0
                have n1 := (xB.cell sL).trans s1
                have nL : w.heap.size < W2.heap.size := Nat.lt_of_lt_of_le sL xB.size
                have HXB := hidP xB
                clear xS xB
                go_wp2_with fail
                refine (HL.out W2 (HBel.out.trans (HXB.out.mono HBel.out.size))).mono ?_
                rintro e w3 ⟨rfl, hb3⟩
                have x0' := (hb3.cell xL).trans x0
                have x1' := (hb3.cell xL).trans x1
                have x2' := (hb3.cell xL).trans x2
                have x3' := (hb3.cell xL).trans x3
                have x4' := (hb3.cell xL).trans x4
                have xL' : wr.heap.size < w3.heap.size := Nat.lt_of_lt_of_le xL hb3.size
                have n0' := (hb3.cell nL).trans n0
                have n1' := (hb3.cell nL).trans n1
                have nL' : w.heap.size < w3.heap.size := Nat.lt_of_lt_of_le nL hb3.size
                have HB3 := hidP hb3
                clear x0 x1 x2 x3 x4 n0 n1 hb3 d0 d1 d2 d3 d4 s0 s1
                go_wp2_with fail
                have HSx : Hid (∀ x, Below w3.heap.size w3 x → (x.cell? ⟨wr.heap.size, 0, none⟩ = some (.bool q.p.s) ∧ x.cell? ⟨wr.heap.size, 1, none⟩ = some (.int .i64 q.p.H.toInt) ∧ x.cell? ⟨wr.heap.size, 2, none⟩ = some (.int .i64 q.p.L.toInt) ∧ x.cell? ⟨wr.heap.size, 3, none⟩ = some (.int .i64 q.p.b) ∧ x.cell? ⟨wr.heap.size, 4, none⟩ = some (.string q.t) ∧ x.cell? ⟨w.heap.size, 0, none⟩ = some (.slice ap np cp) ∧ x.cell? ⟨w.heap.size, 1, none⟩ = some (.slice (some ⟨p, o, none⟩) nb cb) ∧ Below w3.heap.size w3 x)) := hidP fun x h =>
                  ⟨(h.cell xL').trans x0', (h.cell xL').trans x1', (h.cell xL').trans x2', (h.cell xL').trans x3', (h.cell xL').trans x4', (h.cell nL').trans n0', (h.cell nL').trans n1', h⟩
                refine wp_region_held_drew (S := (fun x => x.cell? ⟨wr.heap.size, 0, none⟩ = some (.bool q.p.s) ∧ x.cell? ⟨wr.heap.size, 1, none⟩ = some (.int .i64 q.p.H.toInt) ∧ x.cell? ⟨wr.heap.size, 2, none⟩ = some (.int .i64 q.p.L.toInt) ∧ x.cell? ⟨wr.heap.size, 3, none⟩ = some (.int .i64 q.p.b) ∧ x.cell? ⟨wr.heap.size, 4, none⟩ = some (.string q.t) ∧ x.cell? ⟨w.heap.size, 0, none⟩ = some (.slice ap np cp) ∧ x.cell? ⟨w.heap.size, 1, none⟩ = some (.slice (some ⟨p, o, none⟩) nb cb) ∧ Below w3.heap.size w3 x)) (by kernel_rfl) ?_ (fun hHeld => ?_)
                · try dsimp only
                  exact HSx.out _ (Below.refl _ _).drew
                refine tk 0 84 rfl ?_; simp only [pa]
                refine tk 1 85 rfl ?_; simp only [pa]
                refine wpAnyH_ready (rs := [2]) (by kernel_rfl) (by simp) ?_
                refine AllReadyH.cons rfl (fun K hK => ?_) AllReadyH.nil
                go_simp
                go_wp2_with (first | (go_at_call 85; refine (HQ1.out _).mono ?_; rintro e w5 ⟨rfl, hb5⟩; have b5 := (hHeld.2.2.2.2.2.2.2).trans (hb5.mono (hHeld.2.2.2.2.2.2.2).size)))
                refine hK.out _ _ ?_ (fun hHeld => ?_)
                · try dsimp only
                  exact HSx.out _ b5
                clear hK K
                refine tk 3 87 rfl ?_; simp only [pa]
                refine tk 4 88 rfl ?_; simp only [pa]
                refine tk 5 89 rfl ?_; simp only [pa]
                refine tk 6 90 rfl ?_; simp only [pa]
                refine wpAnyH_ready (rs := [7]) (by kernel_rfl) (by simp) ?_
                refine AllReadyH.cons rfl (fun K hK => ?_) AllReadyH.nil
                go_simp
                go_wp2_with (first | (go_at_call 86; refine (HOw.out _).mono ?_; rintro e w' ⟨rfl, rfl⟩))
                refine hK.out _ _ ?_ (fun hHeld => ?_)
                · try dsimp only
                  exact HSx.out _ (hHeld.2.2.2.2.2.2.2)
                clear hK K
                refine tk 8 92 rfl ?_; simp only [pa]
                refine tk 9 93 rfl ?_; simp only [pa]
                refine tk 10 94 rfl ?_; simp only [pa]
                refine tk 11 95 rfl ?_; simp only [pa]
                refine tk 12 96 rfl ?_; simp only [pa]
                refine tk 13 97 rfl ?_; simp only [pa]
                refine tk 14 98 rfl ?_; simp only [pa]
                refine sk 15 99 rfl ?_; simp only [pa]
                refine sk 16 100 rfl ?_; simp only [pa]
                refine sk 17 101 rfl ?_; simp only [pa]
                refine sk 18 102 rfl ?_; simp only [pa]
                refine sk 19 103 rfl ?_; simp only [pa]
                refine sk 20 104 rfl ?_; simp only [pa]
                refine sk 21 105 rfl ?_; simp only [pa]
                refine sk 22 106 rfl ?_; simp only [pa]
                refine sk 23 107 rfl ?_; simp only [pa]
                refine sk 24 108 rfl ?_; simp only [pa]
                refine tk 25 109 rfl ?_; simp only [pa]
                refine tk 26 110 rfl ?_; simp only [pa]
                refine sk 27 111 rfl ?_; simp only [pa]
                refine sk 28 112 rfl ?_; simp only [pa]
                refine sk 29 113 rfl ?_; simp only [pa]
                refine sk 30 114 rfl ?_; simp only [pa]
                refine sk 31 115 rfl ?_; simp only [pa]
                refine sk 32 116 rfl ?_; simp only [pa]
                refine sk 33 117 rfl ?_; simp only [pa]
                refine sk 34 118 rfl ?_; simp only [pa]
                refine sk 35 119 rfl ?_; simp only [pa]
                refine sk 36 120 rfl ?_; simp only [pa]
                refine sk 37 121 rfl ?_; simp only [pa]
                refine sk 38 122 rfl ?_; simp only [pa]
                refine sk 39 123 rfl ?_; simp only [pa]
                refine sk 40 124 rfl ?_; simp only [pa]
                refine sk 41 125 rfl ?_; simp only [pa]
                refine tk 42 126 rfl ?_; simp only [pa]
                have HE := hidP (hHeld.2.2.2.2.2.2.2)
                refine wpAnyH_done (by kernel_rfl) ?_ _
                clear hHeld
                go_wp2_with fail
                go_ret
                exact ⟨ret_b HF.out.symm, HUB.out.trans ((HBel0.out.trans ((HBel.out.trans ((below_box HXB.out HXB.out.size HB3.out HE.out).mono HBel.out.size)).mono HBel0.out.size)).mono HUB.out.size)⟩
              · have hlp0 : lpF q.p 0 ps = (j : Int) := by rw [Nat.zero_add] at hlp'; exact hlp'
                have hjl : j < ps.length := by
                  rcases Nat.lt_or_ge j ps.length with h' | h'
                  · exact h'
                  · rw [List.getElem?_eq_none h'] at hx; cases hx
                have hbit : bitsAt ps (lpF q.p 0 ps) = pq.n := by
                  rw [hlp0]; unfold bitsAt
                  rw [Int.toNat_natCast, List.getD_eq_getElem?_getD, hx]; rfl
                rw [hbit, hlp0] at HPo
                rw [hlp0] at HL
                have hjn : j < np := by rw [HNP.out]; exact hjl
                have wj : IntKind.i64.wrap (j : Int) = (j : Int) := by rw [IntKind.wrap_i64]; omega
                have hj0 : (0 : Int) ≤ (j : Int) := by omega
                have hj1 : (j : Int) < (np : Int) := by omega
                have hj2 : decide ((j : Int) < 0) = false := decide_eq_false (by omega)
                obtain ⟨p2, o2, x2, rfl, hp2, hx2, _, _, _, _, k4⟩ := rowPl HPW.out j hjl
                rw [hx] at hx2
                cases hx2
                have k4' := (HBel.out.cell hp2).trans k4
                have kL : p2 < wr.heap.size := Nat.lt_of_lt_of_le hp2 HBel.out.size
                have HPo2 : Hid (blocksS ps none bs = (((pq.n == q.p.b) && (match prvB bs i with | none => true | some r => decide (cmpP r q.p < 0))) && blocksS ps (some q.p) (bs.drop (i + 1)))) := hidP (by rw [HPo.out, decide_eq_true hj0]; simp)
                clear HPo hlp' hlp0 hbit hx hjl k4
                cases hbt : (pq.n == q.p.b)
                · have g3 : (pq.n != q.p.b) = true := by rw [bne, hbt]; rfl
                  rw [hbt] at HPo2
                  have HF : Hid ((poolsF none ps && blocksS ps none bs) = false) := hidP (by rw [HPo2.out]; simp)
                  clear HPo2 HPr HNx HPT hbt
                  go_wp2_with fail
                  obtain ⟨x0, x1, x2, x3, x4⟩ := boxBk (q := q) wr 71
                  have xB := alloc_below wr (.cells #[.bool q.p.s, .int .i64 q.p.H.toInt, .int .i64 q.p.L.toInt, .int .i64 q.p.b, .string q.t] 71)
                  have xL := alloc_lt wr (.cells #[.bool q.p.s, .int .i64 q.p.H.toInt, .int .i64 q.p.L.toInt, .int .i64 q.p.b, .string q.t] 71)
                  have xS : (wr.alloc (.cells #[.bool q.p.s, .int .i64 q.p.H.toInt, .int .i64 q.p.L.toInt, .int .i64 q.p.b, .string q.t] 71)).heap.size = wr.heap.size + 1 := by simp
                  generalize wr.alloc (.cells #[.bool q.p.s, .int .i64 q.p.H.toInt, .int .i64 q.p.L.toInt, .int .i64 q.p.b, .string q.t] 71) = W2 at *
                  have n0 := (xB.cell sL).trans s0
                  have n1 := (xB.cell sL).trans s1
                  have nL : w.heap.size < W2.heap.size := Nat.lt_of_lt_of_le sL xB.size
                  have m4 := (xB.cell kL).trans k4'
                  have mL : p2 < W2.heap.size := Nat.lt_of_lt_of_le kL xB.size
                  have HXB := hidP xB
                  clear xS xB
                  go_wp2_with fail
                  refine (HL.out W2 (HBel.out.trans (HXB.out.mono HBel.out.size))).mono ?_
                  rintro e w3 ⟨rfl, hb3⟩
                  have x0' := (hb3.cell xL).trans x0
                  have x1' := (hb3.cell xL).trans x1
                  have x2' := (hb3.cell xL).trans x2
                  have x3' := (hb3.cell xL).trans x3
                  have x4' := (hb3.cell xL).trans x4
                  have xL' : wr.heap.size < w3.heap.size := Nat.lt_of_lt_of_le xL hb3.size
                  have n0' := (hb3.cell nL).trans n0
                  have n1' := (hb3.cell nL).trans n1
                  have nL' : w.heap.size < w3.heap.size := Nat.lt_of_lt_of_le nL hb3.size
                  have m4' := (hb3.cell mL).trans m4
                  have mL' : p2 < w3.heap.size := Nat.lt_of_lt_of_le mL hb3.size
                  have HB3 := hidP hb3
                  clear x0 x1 x2 x3 x4 n0 n1 m4 k4' hb3 d0 d1 d2 d3 d4 s0 s1
                  go_wp2_with fail
                  have HSx : Hid (∀ x, Below w3.heap.size w3 x → (x.cell? ⟨wr.heap.size, 0, none⟩ = some (.bool q.p.s) ∧ x.cell? ⟨wr.heap.size, 1, none⟩ = some (.int .i64 q.p.H.toInt) ∧ x.cell? ⟨wr.heap.size, 2, none⟩ = some (.int .i64 q.p.L.toInt) ∧ x.cell? ⟨wr.heap.size, 3, none⟩ = some (.int .i64 q.p.b) ∧ x.cell? ⟨wr.heap.size, 4, none⟩ = some (.string q.t) ∧ x.cell? ⟨w.heap.size, 0, none⟩ = some (.slice (some ⟨p2, o2, none⟩) np cp) ∧ x.cell? ⟨w.heap.size, 1, none⟩ = some (.slice (some ⟨p, o, none⟩) nb cb) ∧ x.cell? ⟨p2, o2 + j * 5 + 4, none⟩ = some (.int .i64 pq.n) ∧ Below w3.heap.size w3 x)) := hidP fun x h =>
                    ⟨(h.cell xL').trans x0', (h.cell xL').trans x1', (h.cell xL').trans x2', (h.cell xL').trans x3', (h.cell xL').trans x4', (h.cell nL').trans n0', (h.cell nL').trans n1', (h.cell mL').trans m4', h⟩
                  refine wp_region_held_drew (S := (fun x => x.cell? ⟨wr.heap.size, 0, none⟩ = some (.bool q.p.s) ∧ x.cell? ⟨wr.heap.size, 1, none⟩ = some (.int .i64 q.p.H.toInt) ∧ x.cell? ⟨wr.heap.size, 2, none⟩ = some (.int .i64 q.p.L.toInt) ∧ x.cell? ⟨wr.heap.size, 3, none⟩ = some (.int .i64 q.p.b) ∧ x.cell? ⟨wr.heap.size, 4, none⟩ = some (.string q.t) ∧ x.cell? ⟨w.heap.size, 0, none⟩ = some (.slice (some ⟨p2, o2, none⟩) np cp) ∧ x.cell? ⟨w.heap.size, 1, none⟩ = some (.slice (some ⟨p, o, none⟩) nb cb) ∧ x.cell? ⟨p2, o2 + j * 5 + 4, none⟩ = some (.int .i64 pq.n) ∧ Below w3.heap.size w3 x)) (by kernel_rfl) ?_ (fun hHeld => ?_)
                  · try dsimp only
                    exact HSx.out _ (Below.refl _ _).drew
                  refine tk 0 84 rfl ?_; simp only [pa]
                  refine tk 1 85 rfl ?_; simp only [pa]
                  refine wpAnyH_ready (rs := [2]) (by kernel_rfl) (by simp) ?_
                  refine AllReadyH.cons rfl (fun K hK => ?_) AllReadyH.nil
                  go_simp
                  go_wp2_with (first | (go_at_call 85; refine (HQ1.out _).mono ?_; rintro e w5 ⟨rfl, hb5⟩; have b5 := (hHeld.2.2.2.2.2.2.2.2).trans (hb5.mono (hHeld.2.2.2.2.2.2.2.2).size)))
                  refine hK.out _ _ ?_ (fun hHeld => ?_)
                  · try dsimp only
                    exact HSx.out _ b5
                  clear hK K
                  refine tk 3 87 rfl ?_; simp only [pa]
                  refine tk 4 88 rfl ?_; simp only [pa]
                  refine tk 5 89 rfl ?_; simp only [pa]
                  refine tk 6 90 rfl ?_; simp only [pa]
                  refine wpAnyH_ready (rs := [7]) (by kernel_rfl) (by simp) ?_
                  refine AllReadyH.cons rfl (fun K hK => ?_) AllReadyH.nil
                  go_simp
                  go_wp2_with (first | (go_at_call 86; refine (HOw.out _).mono ?_; rintro e w' ⟨rfl, rfl⟩))
                  refine hK.out _ _ ?_ (fun hHeld => ?_)
                  · try dsimp only
                    exact HSx.out _ (hHeld.2.2.2.2.2.2.2.2)
                  clear hK K
                  refine tk 8 92 rfl ?_; simp only [pa]
                  refine tk 9 93 rfl ?_; simp only [pa]
                  refine tk 10 94 rfl ?_; simp only [pa]
                  refine tk 11 95 rfl ?_; simp only [pa]
                  refine tk 12 96 rfl ?_; simp only [pa]
                  refine tk 13 97 rfl ?_; simp only [pa]
                  refine tk 14 98 rfl ?_; simp only [pa]
                  refine tk 15 99 rfl ?_; simp only [pa]
                  refine tk 16 100 rfl ?_; simp only [pa]
                  refine tk 17 101 rfl ?_; simp only [pa]
                  refine tk 18 102 rfl ?_; simp only [pa]
                  refine tk 19 103 rfl ?_; simp only [pa]
                  refine tk 20 104 rfl ?_; simp only [pa]
                  refine tk 21 105 rfl ?_; simp only [pa]
                  refine tk 22 106 rfl ?_; simp only [pa]
                  refine tk 23 107 rfl ?_; simp only [pa]
                  refine tk 24 108 rfl ?_; simp only [pa]
                  refine tk 25 109 rfl ?_; simp only [pa]
                  refine tk 26 110 rfl ?_; simp only [pa]
                  refine sk 27 111 rfl ?_; simp only [pa]
                  refine sk 28 112 rfl ?_; simp only [pa]
                  refine sk 29 113 rfl ?_; simp only [pa]
                  refine sk 30 114 rfl ?_; simp only [pa]
                  refine sk 31 115 rfl ?_; simp only [pa]
                  refine sk 32 116 rfl ?_; simp only [pa]
                  refine sk 33 117 rfl ?_; simp only [pa]
                  refine sk 34 118 rfl ?_; simp only [pa]
                  refine sk 35 119 rfl ?_; simp only [pa]
                  refine sk 36 120 rfl ?_; simp only [pa]
                  refine sk 37 121 rfl ?_; simp only [pa]
                  refine sk 38 122 rfl ?_; simp only [pa]
                  refine sk 39 123 rfl ?_; simp only [pa]
                  refine sk 40 124 rfl ?_; simp only [pa]
                  refine sk 41 125 rfl ?_; simp only [pa]
                  refine tk 42 126 rfl ?_; simp only [pa]
                  have HE := hidP (hHeld.2.2.2.2.2.2.2.2)
                  refine wpAnyH_done (by kernel_rfl) ?_ _
                  clear hHeld
                  go_wp2_with fail
                  go_ret
                  exact ⟨ret_b HF.out.symm, HUB.out.trans ((HBel0.out.trans ((HBel.out.trans ((below_box HXB.out HXB.out.size HB3.out HE.out).mono HBel.out.size)).mono HBel0.out.size)).mono HUB.out.size)⟩
                · have g3 : (pq.n != q.p.b) = false := by rw [bne, hbt]; rfl
                  rw [hbt] at HPo2
                  clear hbt
                  by_cases hk0 : i = 0
                  · have g0 : decide ((0 : Int) < (i : Int)) = false := decide_eq_false (by omega)
                    have g1 : decide (0 < i) = false := decide_eq_false (by omega)
                    have HF : Hid (blocksS ps none bs = blocksS ps (some q.p) (bs.drop (i + 1))) := hidP (by rw [HPo2.out, hk0]; rfl)
                    clear HPo2 HPr hk0
                    go_wp2_with fail
                    obtain ⟨x0, x1, x2, x3, x4⟩ := boxBk (q := q) wr 71
                    have xB := alloc_below wr (.cells #[.bool q.p.s, .int .i64 q.p.H.toInt, .int .i64 q.p.L.toInt, .int .i64 q.p.b, .string q.t] 71)
                    have xL := alloc_lt wr (.cells #[.bool q.p.s, .int .i64 q.p.H.toInt, .int .i64 q.p.L.toInt, .int .i64 q.p.b, .string q.t] 71)
                    have xS : (wr.alloc (.cells #[.bool q.p.s, .int .i64 q.p.H.toInt, .int .i64 q.p.L.toInt, .int .i64 q.p.b, .string q.t] 71)).heap.size = wr.heap.size + 1 := by simp
                    generalize wr.alloc (.cells #[.bool q.p.s, .int .i64 q.p.H.toInt, .int .i64 q.p.L.toInt, .int .i64 q.p.b, .string q.t] 71) = W2 at *
                    have n0 := (xB.cell sL).trans s0
                    have n1 := (xB.cell sL).trans s1
                    have nL : w.heap.size < W2.heap.size := Nat.lt_of_lt_of_le sL xB.size
                    have m4 := (xB.cell kL).trans k4'
                    have mL : p2 < W2.heap.size := Nat.lt_of_lt_of_le kL xB.size
                    have HXB := hidP xB
                    clear xS xB
                    go_wp2_with fail
                    refine (HL.out W2 (HBel.out.trans (HXB.out.mono HBel.out.size))).mono ?_
                    rintro e w3 ⟨rfl, hb3⟩
                    have x0' := (hb3.cell xL).trans x0
                    have x1' := (hb3.cell xL).trans x1
                    have x2' := (hb3.cell xL).trans x2
                    have x3' := (hb3.cell xL).trans x3
                    have x4' := (hb3.cell xL).trans x4
                    have xL' : wr.heap.size < w3.heap.size := Nat.lt_of_lt_of_le xL hb3.size
                    have n0' := (hb3.cell nL).trans n0
                    have n1' := (hb3.cell nL).trans n1
                    have nL' : w.heap.size < w3.heap.size := Nat.lt_of_lt_of_le nL hb3.size
                    have m4' := (hb3.cell mL).trans m4
                    have mL' : p2 < w3.heap.size := Nat.lt_of_lt_of_le mL hb3.size
                    have HB3 := hidP hb3
                    clear x0 x1 x2 x3 x4 n0 n1 m4 k4' hb3 d0 d1 d2 d3 d4 s0 s1
                    go_wp2_with fail
                    have HSx : Hid (∀ x, Below w3.heap.size w3 x → (x.cell? ⟨wr.heap.size, 0, none⟩ = some (.bool q.p.s) ∧ x.cell? ⟨wr.heap.size, 1, none⟩ = some (.int .i64 q.p.H.toInt) ∧ x.cell? ⟨wr.heap.size, 2, none⟩ = some (.int .i64 q.p.L.toInt) ∧ x.cell? ⟨wr.heap.size, 3, none⟩ = some (.int .i64 q.p.b) ∧ x.cell? ⟨wr.heap.size, 4, none⟩ = some (.string q.t) ∧ x.cell? ⟨w.heap.size, 0, none⟩ = some (.slice (some ⟨p2, o2, none⟩) np cp) ∧ x.cell? ⟨w.heap.size, 1, none⟩ = some (.slice (some ⟨p, o, none⟩) nb cb) ∧ x.cell? ⟨p2, o2 + j * 5 + 4, none⟩ = some (.int .i64 pq.n) ∧ Below w3.heap.size w3 x)) := hidP fun x h =>
                      ⟨(h.cell xL').trans x0', (h.cell xL').trans x1', (h.cell xL').trans x2', (h.cell xL').trans x3', (h.cell xL').trans x4', (h.cell nL').trans n0', (h.cell nL').trans n1', (h.cell mL').trans m4', h⟩
                    refine wp_region_held_drew (S := (fun x => x.cell? ⟨wr.heap.size, 0, none⟩ = some (.bool q.p.s) ∧ x.cell? ⟨wr.heap.size, 1, none⟩ = some (.int .i64 q.p.H.toInt) ∧ x.cell? ⟨wr.heap.size, 2, none⟩ = some (.int .i64 q.p.L.toInt) ∧ x.cell? ⟨wr.heap.size, 3, none⟩ = some (.int .i64 q.p.b) ∧ x.cell? ⟨wr.heap.size, 4, none⟩ = some (.string q.t) ∧ x.cell? ⟨w.heap.size, 0, none⟩ = some (.slice (some ⟨p2, o2, none⟩) np cp) ∧ x.cell? ⟨w.heap.size, 1, none⟩ = some (.slice (some ⟨p, o, none⟩) nb cb) ∧ x.cell? ⟨p2, o2 + j * 5 + 4, none⟩ = some (.int .i64 pq.n) ∧ Below w3.heap.size w3 x)) (by kernel_rfl) ?_ (fun hHeld => ?_)
                    · try dsimp only
                      exact HSx.out _ (Below.refl _ _).drew
                    refine tk 0 84 rfl ?_; simp only [pa]
                    refine tk 1 85 rfl ?_; simp only [pa]
                    refine wpAnyH_ready (rs := [2]) (by kernel_rfl) (by simp) ?_
                    refine AllReadyH.cons rfl (fun K hK => ?_) AllReadyH.nil
                    go_simp
                    go_wp2_with (first | (go_at_call 85; refine (HQ1.out _).mono ?_; rintro e w5 ⟨rfl, hb5⟩; have b5 := (hHeld.2.2.2.2.2.2.2.2).trans (hb5.mono (hHeld.2.2.2.2.2.2.2.2).size)))
                    refine hK.out _ _ ?_ (fun hHeld => ?_)
                    · try dsimp only
                      exact HSx.out _ b5
                    clear hK K
                    refine tk 3 87 rfl ?_; simp only [pa]
                    refine tk 4 88 rfl ?_; simp only [pa]
                    refine tk 5 89 rfl ?_; simp only [pa]
                    refine tk 6 90 rfl ?_; simp only [pa]
                    refine wpAnyH_ready (rs := [7]) (by kernel_rfl) (by simp) ?_
                    refine AllReadyH.cons rfl (fun K hK => ?_) AllReadyH.nil
                    go_simp
                    go_wp2_with (first | (go_at_call 86; refine (HOw.out _).mono ?_; rintro e w' ⟨rfl, rfl⟩))
                    refine hK.out _ _ ?_ (fun hHeld => ?_)
                    · try dsimp only
                      exact HSx.out _ (hHeld.2.2.2.2.2.2.2.2)
                    clear hK K
                    refine tk 8 92 rfl ?_; simp only [pa]
                    refine tk 9 93 rfl ?_; simp only [pa]
                    refine tk 10 94 rfl ?_; simp only [pa]
                    refine tk 11 95 rfl ?_; simp only [pa]
                    refine tk 12 96 rfl ?_; simp only [pa]
                    refine tk 13 97 rfl ?_; simp only [pa]
                    refine tk 14 98 rfl ?_; simp only [pa]
                    refine tk 15 99 rfl ?_; simp only [pa]
                    refine tk 16 100 rfl ?_; simp only [pa]
                    refine tk 17 101 rfl ?_; simp only [pa]
                    refine tk 18 102 rfl ?_; simp only [pa]
                    refine tk 19 103 rfl ?_; simp only [pa]
                    refine tk 20 104 rfl ?_; simp only [pa]
                    refine tk 21 105 rfl ?_; simp only [pa]
                    refine tk 22 106 rfl ?_; simp only [pa]
                    refine tk 23 107 rfl ?_; simp only [pa]
                    refine tk 24 108 rfl ?_; simp only [pa]
                    refine tk 25 109 rfl ?_; simp only [pa]
                    refine tk 26 110 rfl ?_; simp only [pa]
                    refine tk 27 111 rfl ?_; simp only [pa]
                    refine tk 28 112 rfl ?_; simp only [pa]
                    refine tk 29 113 rfl ?_; simp only [pa]
                    refine sk 30 114 rfl ?_; simp only [pa]
                    refine sk 31 115 rfl ?_; simp only [pa]
                    refine sk 32 116 rfl ?_; simp only [pa]
                    refine sk 33 117 rfl ?_; simp only [pa]
                    refine sk 34 118 rfl ?_; simp only [pa]
                    refine sk 35 119 rfl ?_; simp only [pa]
                    refine sk 36 120 rfl ?_; simp only [pa]
                    refine sk 37 121 rfl ?_; simp only [pa]
                    refine sk 38 122 rfl ?_; simp only [pa]
                    refine sk 39 123 rfl ?_; simp only [pa]
                    refine sk 40 124 rfl ?_; simp only [pa]
                    refine tk 41 125 rfl ?_; simp only [pa]
                    refine tk 42 126 rfl ?_; simp only [pa]
                    have HE := hidP (hHeld.2.2.2.2.2.2.2.2)
                    refine wpAnyH_done (by kernel_rfl) ?_ _
                    clear hHeld
                    go_wp2_with fail
                    go_roundw
                    case rel => exact ⟨i + 1, by omega, by go_num, by rw [HF.out, HNx.out], (fun r h => by rw [HNx.out] at h; cases h; exact HPk.out), HBel.out.trans ((below_box HXB.out HXB.out.size HB3.out HE.out).mono HBel.out.size)⟩
                    case measure => simp [intOf]; omega
                  · have g0 : decide ((0 : Int) < (i : Int)) = true := decide_eq_true (by omega)
                    have g1 : decide (0 < i) = true := decide_eq_true (by omega)
                    obtain ⟨J, hJ⟩ : ∃ J, J = i - 1 := ⟨_, rfl⟩
                    have hkJ : i = J + 1 := by omega
                    have hJi : (i : Int) - 1 = (J : Int) := by omega
                    have hJn : J < nb := by omega
                    have wJ : IntKind.i64.wrap (J : Int) = (J : Int) := by rw [IntKind.wrap_i64]; omega
                    have hJ0 : (0 : Int) ≤ (J : Int) := by omega
                    have hJ1 : (J : Int) < (nb : Int) := by omega
                    obtain ⟨p', o', r, he, hp', hr, c0, c1, c2, c3, c4⟩ := rowBk HBW.out J (by rw [← HNB.out]; exact hJn)
                    simp only [Option.some.injEq, Addr.mk.injEq, and_true] at he
                    obtain ⟨rfl, rfl⟩ := he
                    have hprv : prvB bs i = some r.p := by rw [hkJ]; exact prvB_next hr
                    have hrpk : r.p.pk = true := HPr.out _ hprv
                    have HPo3 : Hid (blocksS ps none bs = (decide (cmpP r.p q.p < 0) && blocksS ps (some q.p) (bs.drop (i + 1)))) := hidP (by rw [HPo2.out, hprv]; simp)
                    have HC := hidP (sCmpP r.p q.p hrpk HPk.out)
                    have e0 := (HBel.out.cell hp').trans c0
                    have e1 := (HBel.out.cell hp').trans c1
                    have e2 := (HBel.out.cell hp').trans c2
                    have e3 := (HBel.out.cell hp').trans c3
                    clear c0 c1 c2 c3 c4 hr hprv hrpk hJ hkJ hk0 HPo2 HPr
                    cases hcm : decide (cmpP r.p q.p < 0)
                    · have g2 := ge_not hcm
                      rw [hcm] at HPo3
                      have HF : Hid ((poolsF none ps && blocksS ps none bs) = false) := hidP (by rw [HPo3.out]; simp)
                      clear HPo3 hcm HPT
                      generalize cmpP r.p q.p = cm at *
                      go_wp2_with fail
                      obtain ⟨x0, x1, x2, x3, x4⟩ := boxBk (q := q) wr 71
                      have xB := alloc_below wr (.cells #[.bool q.p.s, .int .i64 q.p.H.toInt, .int .i64 q.p.L.toInt, .int .i64 q.p.b, .string q.t] 71)
                      have xL := alloc_lt wr (.cells #[.bool q.p.s, .int .i64 q.p.H.toInt, .int .i64 q.p.L.toInt, .int .i64 q.p.b, .string q.t] 71)
                      have xS : (wr.alloc (.cells #[.bool q.p.s, .int .i64 q.p.H.toInt, .int .i64 q.p.L.toInt, .int .i64 q.p.b, .string q.t] 71)).heap.size = wr.heap.size + 1 := by simp
                      generalize wr.alloc (.cells #[.bool q.p.s, .int .i64 q.p.H.toInt, .int .i64 q.p.L.toInt, .int .i64 q.p.b, .string q.t] 71) = W2 at *
                      have n0 := (xB.cell sL).trans s0
                      have n1 := (xB.cell sL).trans s1
                      have nL : w.heap.size < W2.heap.size := Nat.lt_of_lt_of_le sL xB.size
                      have m4 := (xB.cell kL).trans k4'
                      have mL : p2 < W2.heap.size := Nat.lt_of_lt_of_le kL xB.size
                      have y0 := (xB.cell dL).trans e0
                      have y1 := (xB.cell dL).trans e1
                      have y2 := (xB.cell dL).trans e2
                      have y3 := (xB.cell dL).trans e3
                      have yL : p < W2.heap.size := Nat.lt_of_lt_of_le dL xB.size
                      have HXB := hidP xB
                      clear xS xB
                      go_wp2_with fail
                      refine (HL.out W2 (HBel.out.trans (HXB.out.mono HBel.out.size))).mono ?_
                      rintro e w3 ⟨rfl, hb3⟩
                      have x0' := (hb3.cell xL).trans x0
                      have x1' := (hb3.cell xL).trans x1
                      have x2' := (hb3.cell xL).trans x2
                      have x3' := (hb3.cell xL).trans x3
                      have x4' := (hb3.cell xL).trans x4
                      have xL' : wr.heap.size < w3.heap.size := Nat.lt_of_lt_of_le xL hb3.size
                      have n0' := (hb3.cell nL).trans n0
                      have n1' := (hb3.cell nL).trans n1
                      have nL' : w.heap.size < w3.heap.size := Nat.lt_of_lt_of_le nL hb3.size
                      have m4' := (hb3.cell mL).trans m4
                      have mL' : p2 < w3.heap.size := Nat.lt_of_lt_of_le mL hb3.size
                      have y0' := (hb3.cell yL).trans y0
                      have y1' := (hb3.cell yL).trans y1
                      have y2' := (hb3.cell yL).trans y2
                      have y3' := (hb3.cell yL).trans y3
                      have yL' : p < w3.heap.size := Nat.lt_of_lt_of_le yL hb3.size
                      have HB3 := hidP hb3
                      clear x0 x1 x2 x3 x4 n0 n1 m4 k4' y0 y1 y2 y3 e0 e1 e2 e3 hb3 d0 d1 d2 d3 d4 s0 s1
                      go_wp2_with fail
                      have HSx : Hid (∀ x, Below w3.heap.size w3 x → (x.cell? ⟨wr.heap.size, 0, none⟩ = some (.bool q.p.s) ∧ x.cell? ⟨wr.heap.size, 1, none⟩ = some (.int .i64 q.p.H.toInt) ∧ x.cell? ⟨wr.heap.size, 2, none⟩ = some (.int .i64 q.p.L.toInt) ∧ x.cell? ⟨wr.heap.size, 3, none⟩ = some (.int .i64 q.p.b) ∧ x.cell? ⟨wr.heap.size, 4, none⟩ = some (.string q.t) ∧ x.cell? ⟨w.heap.size, 0, none⟩ = some (.slice (some ⟨p2, o2, none⟩) np cp) ∧ x.cell? ⟨w.heap.size, 1, none⟩ = some (.slice (some ⟨p, o, none⟩) nb cb) ∧ x.cell? ⟨p2, o2 + j * 5 + 4, none⟩ = some (.int .i64 pq.n) ∧ x.cell? ⟨p, o + J * 5, none⟩ = some (.bool r.p.s) ∧ x.cell? ⟨p, o + J * 5 + 1, none⟩ = some (.int .i64 r.p.H.toInt) ∧ x.cell? ⟨p, o + J * 5 + 2, none⟩ = some (.int .i64 r.p.L.toInt) ∧ x.cell? ⟨p, o + J * 5 + 3, none⟩ = some (.int .i64 r.p.b) ∧ Below w3.heap.size w3 x)) := hidP fun x h =>
                        ⟨(h.cell xL').trans x0', (h.cell xL').trans x1', (h.cell xL').trans x2', (h.cell xL').trans x3', (h.cell xL').trans x4', (h.cell nL').trans n0', (h.cell nL').trans n1', (h.cell mL').trans m4', (h.cell yL').trans y0', (h.cell yL').trans y1', (h.cell yL').trans y2', (h.cell yL').trans y3', h⟩
                      refine wp_region_held_drew (S := (fun x => x.cell? ⟨wr.heap.size, 0, none⟩ = some (.bool q.p.s) ∧ x.cell? ⟨wr.heap.size, 1, none⟩ = some (.int .i64 q.p.H.toInt) ∧ x.cell? ⟨wr.heap.size, 2, none⟩ = some (.int .i64 q.p.L.toInt) ∧ x.cell? ⟨wr.heap.size, 3, none⟩ = some (.int .i64 q.p.b) ∧ x.cell? ⟨wr.heap.size, 4, none⟩ = some (.string q.t) ∧ x.cell? ⟨w.heap.size, 0, none⟩ = some (.slice (some ⟨p2, o2, none⟩) np cp) ∧ x.cell? ⟨w.heap.size, 1, none⟩ = some (.slice (some ⟨p, o, none⟩) nb cb) ∧ x.cell? ⟨p2, o2 + j * 5 + 4, none⟩ = some (.int .i64 pq.n) ∧ x.cell? ⟨p, o + J * 5, none⟩ = some (.bool r.p.s) ∧ x.cell? ⟨p, o + J * 5 + 1, none⟩ = some (.int .i64 r.p.H.toInt) ∧ x.cell? ⟨p, o + J * 5 + 2, none⟩ = some (.int .i64 r.p.L.toInt) ∧ x.cell? ⟨p, o + J * 5 + 3, none⟩ = some (.int .i64 r.p.b) ∧ Below w3.heap.size w3 x)) (by kernel_rfl) ?_ (fun hHeld => ?_)
                      · try dsimp only
                        exact HSx.out _ (Below.refl _ _).drew
                      refine tk 0 84 rfl ?_; simp only [pa]
                      refine tk 1 85 rfl ?_; simp only [pa]
                      refine wpAnyH_ready (rs := [2]) (by kernel_rfl) (by simp) ?_
                      refine AllReadyH.cons rfl (fun K hK => ?_) AllReadyH.nil
                      go_simp
                      go_wp2_with (first | (go_at_call 85; refine (HQ1.out _).mono ?_; rintro e w5 ⟨rfl, hb5⟩; have b5 := (hHeld.2.2.2.2.2.2.2.2.2.2.2.2).trans (hb5.mono (hHeld.2.2.2.2.2.2.2.2.2.2.2.2).size)))
                      refine hK.out _ _ ?_ (fun hHeld => ?_)
                      · try dsimp only
                        exact HSx.out _ b5
                      clear hK K
                      refine tk 3 87 rfl ?_; simp only [pa]
                      refine tk 4 88 rfl ?_; simp only [pa]
                      refine tk 5 89 rfl ?_; simp only [pa]
                      refine tk 6 90 rfl ?_; simp only [pa]
                      refine wpAnyH_ready (rs := [7]) (by kernel_rfl) (by simp) ?_
                      refine AllReadyH.cons rfl (fun K hK => ?_) AllReadyH.nil
                      go_simp
                      go_wp2_with (first | (go_at_call 86; refine (HOw.out _).mono ?_; rintro e w' ⟨rfl, rfl⟩))
                      refine hK.out _ _ ?_ (fun hHeld => ?_)
                      · try dsimp only
                        exact HSx.out _ (hHeld.2.2.2.2.2.2.2.2.2.2.2.2)
                      clear hK K
                      refine tk 8 92 rfl ?_; simp only [pa]
                      refine tk 9 93 rfl ?_; simp only [pa]
                      refine tk 10 94 rfl ?_; simp only [pa]
                      refine tk 11 95 rfl ?_; simp only [pa]
                      refine tk 12 96 rfl ?_; simp only [pa]
                      refine tk 13 97 rfl ?_; simp only [pa]
                      refine tk 14 98 rfl ?_; simp only [pa]
                      refine tk 15 99 rfl ?_; simp only [pa]
                      refine tk 16 100 rfl ?_; simp only [pa]
                      refine tk 17 101 rfl ?_; simp only [pa]
                      refine tk 18 102 rfl ?_; simp only [pa]
                      refine tk 19 103 rfl ?_; simp only [pa]
                      refine tk 20 104 rfl ?_; simp only [pa]
                      refine tk 21 105 rfl ?_; simp only [pa]
                      refine tk 22 106 rfl ?_; simp only [pa]
                      refine tk 23 107 rfl ?_; simp only [pa]
                      refine tk 24 108 rfl ?_; simp only [pa]
                      refine tk 25 109 rfl ?_; simp only [pa]
                      refine tk 26 110 rfl ?_; simp only [pa]
                      refine tk 27 111 rfl ?_; simp only [pa]
                      refine tk 28 112 rfl ?_; simp only [pa]
                      refine tk 29 113 rfl ?_; simp only [pa]
                      refine tk 30 114 rfl ?_; simp only [pa]
                      refine tk 31 115 rfl ?_; simp only [pa]
                      refine tk 32 116 rfl ?_; simp only [pa]
                      refine tk 33 117 rfl ?_; simp only [pa]
                      refine tk 34 118 rfl ?_; simp only [pa]
                      refine tk 35 119 rfl ?_; simp only [pa]
                      refine tk 36 120 rfl ?_; simp only [pa]
                      refine tk 37 121 rfl ?_; simp only [pa]
                      refine tk 38 122 rfl ?_; simp only [pa]
                      refine wpAnyH_ready (rs := [39]) (by kernel_rfl) (by simp) ?_
                      refine AllReadyH.cons rfl (fun K hK => ?_) AllReadyH.nil
                      go_simp
                      go_wp2_with (first | (go_at_call 82; refine (HC.out _).mono ?_; rintro e w6 ⟨rfl, hb6⟩; have b6 := (hHeld.2.2.2.2.2.2.2.2.2.2.2.2).trans (hb6.mono (hHeld.2.2.2.2.2.2.2.2.2.2.2.2).size)))
                      refine hK.out _ _ ?_ (fun hHeld => ?_)
                      · try dsimp only
                        exact HSx.out _ b6
                      clear hK K
                      refine tk 40 124 rfl ?_; simp only [pa]
                      refine tk 41 125 rfl ?_; simp only [pa]
                      refine tk 42 126 rfl ?_; simp only [pa]
                      have HE := hidP (hHeld.2.2.2.2.2.2.2.2.2.2.2.2)
                      refine wpAnyH_done (by kernel_rfl) ?_ _
                      clear hHeld
                      go_wp2_with fail
                      go_ret
                      exact ⟨ret_b HF.out.symm, HUB.out.trans ((HBel0.out.trans ((HBel.out.trans ((below_box HXB.out HXB.out.size HB3.out HE.out).mono HBel.out.size)).mono HBel0.out.size)).mono HUB.out.size)⟩
                    · have g2 := ge_not hcm
                      rw [hcm] at HPo3
                      have HF : Hid (blocksS ps none bs = blocksS ps (some q.p) (bs.drop (i + 1))) := hidP (by rw [HPo3.out]; rfl)
                      clear HPo3 hcm
                      generalize cmpP r.p q.p = cm at *
                      go_wp2_with fail
                      obtain ⟨x0, x1, x2, x3, x4⟩ := boxBk (q := q) wr 71
                      have xB := alloc_below wr (.cells #[.bool q.p.s, .int .i64 q.p.H.toInt, .int .i64 q.p.L.toInt, .int .i64 q.p.b, .string q.t] 71)
                      have xL := alloc_lt wr (.cells #[.bool q.p.s, .int .i64 q.p.H.toInt, .int .i64 q.p.L.toInt, .int .i64 q.p.b, .string q.t] 71)
                      have xS : (wr.alloc (.cells #[.bool q.p.s, .int .i64 q.p.H.toInt, .int .i64 q.p.L.toInt, .int .i64 q.p.b, .string q.t] 71)).heap.size = wr.heap.size + 1 := by simp
                      generalize wr.alloc (.cells #[.bool q.p.s, .int .i64 q.p.H.toInt, .int .i64 q.p.L.toInt, .int .i64 q.p.b, .string q.t] 71) = W2 at *
                      have n0 := (xB.cell sL).trans s0
                      have n1 := (xB.cell sL).trans s1
                      have nL : w.heap.size < W2.heap.size := Nat.lt_of_lt_of_le sL xB.size
                      have m4 := (xB.cell kL).trans k4'
                      have mL : p2 < W2.heap.size := Nat.lt_of_lt_of_le kL xB.size
                      have y0 := (xB.cell dL).trans e0
                      have y1 := (xB.cell dL).trans e1
                      have y2 := (xB.cell dL).trans e2
                      have y3 := (xB.cell dL).trans e3
                      have yL : p < W2.heap.size := Nat.lt_of_lt_of_le dL xB.size
                      have HXB := hidP xB
                      clear xS xB
                      go_wp2_with fail
                      refine (HL.out W2 (HBel.out.trans (HXB.out.mono HBel.out.size))).mono ?_
                      rintro e w3 ⟨rfl, hb3⟩
                      have x0' := (hb3.cell xL).trans x0
                      have x1' := (hb3.cell xL).trans x1
                      have x2' := (hb3.cell xL).trans x2
                      have x3' := (hb3.cell xL).trans x3
                      have x4' := (hb3.cell xL).trans x4
                      have xL' : wr.heap.size < w3.heap.size := Nat.lt_of_lt_of_le xL hb3.size
                      have n0' := (hb3.cell nL).trans n0
                      have n1' := (hb3.cell nL).trans n1
                      have nL' : w.heap.size < w3.heap.size := Nat.lt_of_lt_of_le nL hb3.size
                      have m4' := (hb3.cell mL).trans m4
                      have mL' : p2 < w3.heap.size := Nat.lt_of_lt_of_le mL hb3.size
                      have y0' := (hb3.cell yL).trans y0
                      have y1' := (hb3.cell yL).trans y1
                      have y2' := (hb3.cell yL).trans y2
                      have y3' := (hb3.cell yL).trans y3
                      have yL' : p < w3.heap.size := Nat.lt_of_lt_of_le yL hb3.size
                      have HB3 := hidP hb3
                      clear x0 x1 x2 x3 x4 n0 n1 m4 k4' y0 y1 y2 y3 e0 e1 e2 e3 hb3 d0 d1 d2 d3 d4 s0 s1
                      go_wp2_with fail
                      have HSx : Hid (∀ x, Below w3.heap.size w3 x → (x.cell? ⟨wr.heap.size, 0, none⟩ = some (.bool q.p.s) ∧ x.cell? ⟨wr.heap.size, 1, none⟩ = some (.int .i64 q.p.H.toInt) ∧ x.cell? ⟨wr.heap.size, 2, none⟩ = some (.int .i64 q.p.L.toInt) ∧ x.cell? ⟨wr.heap.size, 3, none⟩ = some (.int .i64 q.p.b) ∧ x.cell? ⟨wr.heap.size, 4, none⟩ = some (.string q.t) ∧ x.cell? ⟨w.heap.size, 0, none⟩ = some (.slice (some ⟨p2, o2, none⟩) np cp) ∧ x.cell? ⟨w.heap.size, 1, none⟩ = some (.slice (some ⟨p, o, none⟩) nb cb) ∧ x.cell? ⟨p2, o2 + j * 5 + 4, none⟩ = some (.int .i64 pq.n) ∧ x.cell? ⟨p, o + J * 5, none⟩ = some (.bool r.p.s) ∧ x.cell? ⟨p, o + J * 5 + 1, none⟩ = some (.int .i64 r.p.H.toInt) ∧ x.cell? ⟨p, o + J * 5 + 2, none⟩ = some (.int .i64 r.p.L.toInt) ∧ x.cell? ⟨p, o + J * 5 + 3, none⟩ = some (.int .i64 r.p.b) ∧ Below w3.heap.size w3 x)) := hidP fun x h =>
                        ⟨(h.cell xL').trans x0', (h.cell xL').trans x1', (h.cell xL').trans x2', (h.cell xL').trans x3', (h.cell xL').trans x4', (h.cell nL').trans n0', (h.cell nL').trans n1', (h.cell mL').trans m4', (h.cell yL').trans y0', (h.cell yL').trans y1', (h.cell yL').trans y2', (h.cell yL').trans y3', h⟩
                      refine wp_region_held_drew (S := (fun x => x.cell? ⟨wr.heap.size, 0, none⟩ = some (.bool q.p.s) ∧ x.cell? ⟨wr.heap.size, 1, none⟩ = some (.int .i64 q.p.H.toInt) ∧ x.cell? ⟨wr.heap.size, 2, none⟩ = some (.int .i64 q.p.L.toInt) ∧ x.cell? ⟨wr.heap.size, 3, none⟩ = some (.int .i64 q.p.b) ∧ x.cell? ⟨wr.heap.size, 4, none⟩ = some (.string q.t) ∧ x.cell? ⟨w.heap.size, 0, none⟩ = some (.slice (some ⟨p2, o2, none⟩) np cp) ∧ x.cell? ⟨w.heap.size, 1, none⟩ = some (.slice (some ⟨p, o, none⟩) nb cb) ∧ x.cell? ⟨p2, o2 + j * 5 + 4, none⟩ = some (.int .i64 pq.n) ∧ x.cell? ⟨p, o + J * 5, none⟩ = some (.bool r.p.s) ∧ x.cell? ⟨p, o + J * 5 + 1, none⟩ = some (.int .i64 r.p.H.toInt) ∧ x.cell? ⟨p, o + J * 5 + 2, none⟩ = some (.int .i64 r.p.L.toInt) ∧ x.cell? ⟨p, o + J * 5 + 3, none⟩ = some (.int .i64 r.p.b) ∧ Below w3.heap.size w3 x)) (by kernel_rfl) ?_ (fun hHeld => ?_)
                      · try dsimp only
                        exact HSx.out _ (Below.refl _ _).drew
                      refine tk 0 84 rfl ?_; simp only [pa]
                      refine tk 1 85 rfl ?_; simp only [pa]
                      refine wpAnyH_ready (rs := [2]) (by kernel_rfl) (by simp) ?_
                      refine AllReadyH.cons rfl (fun K hK => ?_) AllReadyH.nil
                      go_simp
                      go_wp2_with (first | (go_at_call 85; refine (HQ1.out _).mono ?_; rintro e w5 ⟨rfl, hb5⟩; have b5 := (hHeld.2.2.2.2.2.2.2.2.2.2.2.2).trans (hb5.mono (hHeld.2.2.2.2.2.2.2.2.2.2.2.2).size)))
                      refine hK.out _ _ ?_ (fun hHeld => ?_)
                      · try dsimp only
                        exact HSx.out _ b5
                      clear hK K
                      refine tk 3 87 rfl ?_; simp only [pa]
                      refine tk 4 88 rfl ?_; simp only [pa]
                      refine tk 5 89 rfl ?_; simp only [pa]
                      refine tk 6 90 rfl ?_; simp only [pa]
                      refine wpAnyH_ready (rs := [7]) (by kernel_rfl) (by simp) ?_
                      refine AllReadyH.cons rfl (fun K hK => ?_) AllReadyH.nil
                      go_simp
                      go_wp2_with (first | (go_at_call 86; refine (HOw.out _).mono ?_; rintro e w' ⟨rfl, rfl⟩))
                      refine hK.out _ _ ?_ (fun hHeld => ?_)
                      · try dsimp only
                        exact HSx.out _ (hHeld.2.2.2.2.2.2.2.2.2.2.2.2)
                      clear hK K
                      refine tk 8 92 rfl ?_; simp only [pa]
                      refine tk 9 93 rfl ?_; simp only [pa]
                      refine tk 10 94 rfl ?_; simp only [pa]
                      refine tk 11 95 rfl ?_; simp only [pa]
                      refine tk 12 96 rfl ?_; simp only [pa]
                      refine tk 13 97 rfl ?_; simp only [pa]
                      refine tk 14 98 rfl ?_; simp only [pa]
                      refine tk 15 99 rfl ?_; simp only [pa]
                      refine tk 16 100 rfl ?_; simp only [pa]
                      refine tk 17 101 rfl ?_; simp only [pa]
                      refine tk 18 102 rfl ?_; simp only [pa]
                      refine tk 19 103 rfl ?_; simp only [pa]
                      refine tk 20 104 rfl ?_; simp only [pa]
                      refine tk 21 105 rfl ?_; simp only [pa]
                      refine tk 22 106 rfl ?_; simp only [pa]
                      refine tk 23 107 rfl ?_; simp only [pa]
                      refine tk 24 108 rfl ?_; simp only [pa]
                      refine tk 25 109 rfl ?_; simp only [pa]
                      refine tk 26 110 rfl ?_; simp only [pa]
                      refine tk 27 111 rfl ?_; simp only [pa]
                      refine tk 28 112 rfl ?_; simp only [pa]
                      refine tk 29 113 rfl ?_; simp only [pa]
                      refine tk 30 114 rfl ?_; simp only [pa]
                      refine tk 31 115 rfl ?_; simp only [pa]
                      refine tk 32 116 rfl ?_; simp only [pa]
                      refine tk 33 117 rfl ?_; simp only [pa]
                      refine tk 34 118 rfl ?_; simp only [pa]
                      refine tk 35 119 rfl ?_; simp only [pa]
                      refine tk 36 120 rfl ?_; simp only [pa]
                      refine tk 37 121 rfl ?_; simp only [pa]
                      refine tk 38 122 rfl ?_; simp only [pa]
                      refine wpAnyH_ready (rs := [39]) (by kernel_rfl) (by simp) ?_
                      refine AllReadyH.cons rfl (fun K hK => ?_) AllReadyH.nil
                      go_simp
                      go_wp2_with (first | (go_at_call 82; refine (HC.out _).mono ?_; rintro e w6 ⟨rfl, hb6⟩; have b6 := (hHeld.2.2.2.2.2.2.2.2.2.2.2.2).trans (hb6.mono (hHeld.2.2.2.2.2.2.2.2.2.2.2.2).size)))
                      refine hK.out _ _ ?_ (fun hHeld => ?_)
                      · try dsimp only
                        exact HSx.out _ b6
                      clear hK K
                      refine tk 40 124 rfl ?_; simp only [pa]
                      refine tk 41 125 rfl ?_; simp only [pa]
                      refine tk 42 126 rfl ?_; simp only [pa]
                      have HE := hidP (hHeld.2.2.2.2.2.2.2.2.2.2.2.2)
                      refine wpAnyH_done (by kernel_rfl) ?_ _
                      clear hHeld
                      go_wp2_with fail
                      go_roundw
                      case rel => exact ⟨i + 1, by omega, by go_num, by rw [HF.out, HNx.out], (fun r h => by rw [HNx.out] at h; cases h; exact HPk.out), HBel.out.trans ((below_box HXB.out HXB.out.size HB3.out HE.out).mono HBel.out.size)⟩
                      case measure => simp [intOf]; omega
        · have HF : Hid ((poolsF none ps && blocksS ps none bs) = true) := by
            rw [List.drop_of_length_le (by have := HNB.out; omega)] at hpo
            refine hidP ?_
            rw [HPT.out, hpo]; rfl
          have HBel := hidP hbel
          clear hbel hpo hpr
          go_wp2_with fail
          go_ret
          exact ⟨ret_b HF.out.symm, HUB.out.trans ((HBel0.out.trans (HBel.out.mono HBel0.out.size)).mono HUB.out.size)⟩

end Go.Proofs.YtngcbhbcocnbeaaGreat
namespace Go.Proofs.YtngcbhbcocnbeaaGreat
open Go.RowKit

set_option maxHeartbeats 1000000 in
theorem sPlanOk_any (ap : Option Addr) (np cp : Nat) (ab : Option Addr) (nb cb : Nat) (ps : List Pl) (bs : List Bk) (w : World) (hnp : np = ps.length) (hnb : nb = bs.length) (hP : RowG KPl w ap ps) (hK : RowG KBk w ab bs) (hlp : np ≤ 9000000000) (hl : nb ≤ 9000000000) (hst : ∀ q ∈ bs, q.t.size ≤ 9223372036854775807) :
    Calls Tryz.prog 52 #[.agg #[.slice ap np cp, .slice ab nb cb]] w fun e w' => e = .returned (.bool (planB ps bs)) ∧ Below w.heap.size w w' := by
  by_cases h1 : np ≤ 20
  · by_cases h2 : nb ≤ 60
    · have hv : planB ps bs = (poolsF none ps && blocksS ps none bs) := by
        unfold planB
        rw [decide_eq_true (hnp ▸ h1), decide_eq_true (hnb ▸ h2), Bool.true_and, Bool.true_and]
        cases hp : poolsF none ps
        · rfl
        · rw [Bool.true_and, Bool.true_and]
          exact (blocks_same (pools_dsj ps none (fun _ h => by cases h) hp).1 bs none (fun _ h => by cases h)).symm
      rw [hv]
      exact sPlanOk_core ap np cp ab nb cb ps bs w hnp hnb hP hK h1 h2 hst
    · have hv : planB ps bs = false := by
        unfold planB
        rw [decide_eq_false (hnb ▸ h2 : ¬ bs.length ≤ 60), Bool.and_false, Bool.false_and]
      rw [hv]
      have g1 : decide ((20 : Int) < (np : Int)) = false := decide_eq_false (by omega)
      have g2 : decide ((60 : Int) < (nb : Int)) = true := decide_eq_true (by omega)
      clear hP hK hnp hnb hst hv
      go_enter Tryz.func52, Tryz.ntmps52
      go_wp2_with fail
      go_ret
      exact ⟨rfl, (Below.refl _ _).alloc (Nat.le_refl _) _⟩
  · have hv : planB ps bs = false := by
      unfold planB
      rw [decide_eq_false (hnp ▸ h1 : ¬ ps.length ≤ 20), Bool.false_and, Bool.false_and]
    rw [hv]
    have g1 : decide ((20 : Int) < (np : Int)) = true := decide_eq_true (by omega)
    clear hP hK hnp hnb hst hv
    go_enter Tryz.func52, Tryz.ntmps52
    go_wp2_with fail
    go_ret
    exact ⟨rfl, (Below.refl _ _).alloc (Nat.le_refl _) _⟩

end Go.Proofs.YtngcbhbcocnbeaaGreat
namespace Go.Proofs.YtngcbhbcocnbeaaGreat
open Go.RowKit

set_option maxHeartbeats 1000000 in
theorem iHasAddr_any (s : Bool) (H L : BitVec 64) (b : Int) (s' : Bool) (H' L' : BitVec 64) (w : World) :
    Calls Tryz.prog 125 #[.agg #[.bool s, .int .i64 H.toInt, .int .i64 L.toInt, .int .i64 b], .agg #[.bool s', .int .i64 H'.toInt, .int .i64 L'.toInt]] w fun e w' => e = .returned (.bool (hadB s H L b s' H' L')) ∧ Below w.heap.size w w' := by
  cases hp : pokB s H L b
  · rw [show hadB s H L b s' H' L' = false by simp [hadB, hp]]
    have HS : Hid (∀ w, _) := spanOf_no s H L b hp
    clear hp
    go_enter Tryz.func125, Tryz.ntmps125
    go_wp2_with fail
    refine (HS.out _).mono ?_
    rintro e w1 ⟨rfl, hb1⟩
    have hz1 := hb1.size
    try simp at hz1
    have f10 : w.heap.size < w1.heap.size := by omega
    have f11 : w.heap.size + 1 < w1.heap.size := by omega
    refine olds_k (w.heap.size + 2) hb1 ?_ ?_
    · first | omega | (simp; omega) | (simp; done)
    intro hc1 hf1
    go_wp2_with fail
    go_ret
    refine ⟨rfl, ?_⟩
    repeat (first | with_reducible exact Below.refl _ _ | (with_reducible refine Below.drew ?_) | (with_reducible refine Below.alloc ?_ ?_ _; rotate_left; (focus (first | omega | (simp; omega) | (simp; done)))) | (with_reducible refine Below.setCell ?_ ?_ _; rotate_left; (focus (first | omega | (simp; omega) | (simp; done)))) | (with_reducible refine Below.trans ?_ (hb1.mono ?_); rotate_left; (focus (first | omega | (simp; omega) | (simp; done)))))
  obtain ⟨n, hn⟩ : ∃ n : Nat, (n : Int) = (wd s : Int) - b := ⟨((wd s : Int) - b).toNat, by have := (pokB_parts hp).2.1; omega⟩
  have hn1 : n ≤ 128 := by have := wd_le' s; have := (pokB_parts hp).2.1; omega
  have HS : Hid (∀ w, _) := spanOf_yes s H L b n hn hp
  have HK : Hid (∀ w, _) := iAddrOk_any s' H'.toInt L'.toInt
  have HH : Hid (∀ w, _) := has_any s H L n hn1 s' H' L'
  have eh : hadB s H L b s' H' L' = (okB s' H'.toInt L'.toInt && hasB s H L n s' H' L') := by rw [hadB, hp, ← hn]; rfl
  rw [eh]
  clear eh hp hn hn1
  generalize okB s' H'.toInt L'.toInt = B1 at HK ⊢
  generalize hasB s H L n s' H' L' = B2 at HH ⊢
  cases B1
  · rw [Bool.false_and]
    go_enter Tryz.func125, Tryz.ntmps125
    go_wp2_with fail
    refine (HS.out _).mono ?_
    rintro e w1 ⟨rfl, hb1⟩
    have hz1 := hb1.size
    try simp at hz1
    have f10 : w.heap.size < w1.heap.size := by omega
    have f11 : w.heap.size + 1 < w1.heap.size := by omega
    refine olds_k (w.heap.size + 2) hb1 ?_ ?_
    · first | omega | (simp; omega) | (simp; done)
    intro hc1 hf1
    go_wp2_with fail
    refine (HK.out _).mono ?_
    rintro e w2 ⟨rfl, hb2⟩
    have hz2 := hb2.size
    try simp at hz2
    have f2x0 : w.heap.size < w2.heap.size := by omega
    have f2x1 : w.heap.size + 1 < w2.heap.size := by omega
    have f2x2 : w1.heap.size < w2.heap.size := by omega
    have f2x3 : w.heap.size + 1 < w1.heap.size + 1 := by omega
    refine olds_k (w1.heap.size + 1) hb2 ?_ ?_
    · first | omega | (simp; omega) | (simp; done)
    intro hc2 hf2
    go_wp2_with fail
    go_ret
    refine ⟨rfl, ?_⟩
    repeat (first | with_reducible exact Below.refl _ _ | (with_reducible refine Below.drew ?_) | (with_reducible refine Below.alloc ?_ ?_ _; rotate_left; (focus (first | omega | (simp; omega) | (simp; done)))) | (with_reducible refine Below.setCell ?_ ?_ _; rotate_left; (focus (first | omega | (simp; omega) | (simp; done)))) | (with_reducible refine Below.trans ?_ (hb2.mono ?_); rotate_left; (focus (first | omega | (simp; omega) | (simp; done)))) | (with_reducible refine Below.trans ?_ (hb1.mono ?_); rotate_left; (focus (first | omega | (simp; omega) | (simp; done)))))
  · rw [Bool.true_and]
    go_enter Tryz.func125, Tryz.ntmps125
    go_wp2_with fail
    refine (HS.out _).mono ?_
    rintro e w1 ⟨rfl, hb1⟩
    have hz1 := hb1.size
    try simp at hz1
    have f10 : w.heap.size < w1.heap.size := by omega
    have f11 : w.heap.size + 1 < w1.heap.size := by omega
    refine olds_k (w.heap.size + 2) hb1 ?_ ?_
    · first | omega | (simp; omega) | (simp; done)
    intro hc1 hf1
    go_wp2_with fail
    refine (HK.out _).mono ?_
    rintro e w2 ⟨rfl, hb2⟩
    have hz2 := hb2.size
    try simp at hz2
    have f2x0 : w.heap.size < w2.heap.size := by omega
    have f2x1 : w.heap.size + 1 < w2.heap.size := by omega
    have f2x2 : w1.heap.size < w2.heap.size := by omega
    have f2x3 : w.heap.size + 1 < w1.heap.size + 1 := by omega
    refine olds_k (w1.heap.size + 1) hb2 ?_ ?_
    · first | omega | (simp; omega) | (simp; done)
    intro hc2 hf2
    go_wp2_with fail
    refine (HH.out _).mono ?_
    rintro e w3 ⟨rfl, hb3⟩
    have hz3 := hb3.size
    try simp at hz3
    have f30 : w.heap.size < w3.heap.size := by omega
    have f31 : w.heap.size + 1 < w3.heap.size := by omega
    refine olds_k (w.heap.size + 2) hb3 ?_ ?_
    · first | omega | (simp; omega) | (simp; done)
    intro hc3 hf3
    go_wp2_with fail
    go_ret
    refine ⟨rfl, ?_⟩
    repeat (first | with_reducible exact Below.refl _ _ | (with_reducible refine Below.drew ?_) | (with_reducible refine Below.alloc ?_ ?_ _; rotate_left; (focus (first | omega | (simp; omega) | (simp; done)))) | (with_reducible refine Below.setCell ?_ ?_ _; rotate_left; (focus (first | omega | (simp; omega) | (simp; done)))) | (with_reducible refine Below.trans ?_ (hb3.mono ?_); rotate_left; (focus (first | omega | (simp; omega) | (simp; done)))) | (with_reducible refine Below.trans ?_ (hb2.mono ?_); rotate_left; (focus (first | omega | (simp; omega) | (simp; done)))) | (with_reducible refine Below.trans ?_ (hb1.mono ?_); rotate_left; (focus (first | omega | (simp; omega) | (simp; done)))))

end Go.Proofs.YtngcbhbcocnbeaaGreat
namespace Go.Proofs.YtngcbhbcocnbeaaGreat
open Go.RowKit

/-- The first block that has an address. -/
def bkF (s : Bool) (H L : BitVec 64) : List Bk → Bk × Bool
  | [] => (Bk.zero, false)
  | q :: t => if hadB q.p.s q.p.H q.p.L q.p.b s H L = true then (q, true) else bkF s H L t
def bkR (r : Bool) (s : Bool) (H L : BitVec 64) (bs : List Bk) : Bk × Bool := if r = true then bkF s H L bs else (Bk.zero, false)
theorem bkF_at (s : Bool) (H L : BitVec 64) (bs : List Bk) (k : Nat) (q : Bk) (h : bs[k]? = some q) : bkF s H L (bs.drop k) = if hadB q.p.s q.p.H q.p.L q.p.b s H L = true then (q, true) else bkF s H L (bs.drop (k + 1)) := by
  rw [drop_at h]; rfl
theorem box3A {s : Bool} {H L : BitVec 64} (w : World) (t : TypeId) : (w.alloc (.cells #[.bool s, .int .i64 H.toInt, .int .i64 L.toInt] t)).cell? ⟨w.heap.size, 0, none⟩ = some (.bool s) ∧ (w.alloc (.cells #[.bool s, .int .i64 H.toInt, .int .i64 L.toInt] t)).cell? ⟨w.heap.size, 1, none⟩ = some (.int .i64 H.toInt) ∧ (w.alloc (.cells #[.bool s, .int .i64 H.toInt, .int .i64 L.toInt] t)).cell? ⟨w.heap.size, 2, none⟩ = some (.int .i64 L.toInt) := ⟨by simp [go_sem], by simp [go_sem], by simp [go_sem]⟩
theorem boxZ (w : World) (t : TypeId) : (w.alloc (.cells #[.bool false, .int .i64 0, .int .i64 0, .int .i64 0, .string ⟨#[]⟩] t)).cell? ⟨w.heap.size, 0, none⟩ = some (.bool false) ∧ (w.alloc (.cells #[.bool false, .int .i64 0, .int .i64 0, .int .i64 0, .string ⟨#[]⟩] t)).cell? ⟨w.heap.size, 1, none⟩ = some (.int .i64 0) ∧ (w.alloc (.cells #[.bool false, .int .i64 0, .int .i64 0, .int .i64 0, .string ⟨#[]⟩] t)).cell? ⟨w.heap.size, 2, none⟩ = some (.int .i64 0) ∧ (w.alloc (.cells #[.bool false, .int .i64 0, .int .i64 0, .int .i64 0, .string ⟨#[]⟩] t)).cell? ⟨w.heap.size, 3, none⟩ = some (.int .i64 0) ∧ (w.alloc (.cells #[.bool false, .int .i64 0, .int .i64 0, .int .i64 0, .string ⟨#[]⟩] t)).cell? ⟨w.heap.size, 4, none⟩ = some (.string ⟨#[]⟩) := ⟨by simp [go_sem], by simp [go_sem], by simp [go_sem], by simp [go_sem], by simp [go_sem]⟩
theorem frzZ (w : World) (t : TypeId) (o : Nat) : (w.alloc (.cells #[.bool false, .int .i64 0, .int .i64 0, .int .i64 0, .string ⟨#[]⟩] t)).frozen? ⟨w.heap.size, o, none⟩ = false := OwnG.frozen (own_oneG KBk w 0 t Bk.zero (Nat.zero_le _)) o
theorem ret_bk {a b : Bk × Bool} (h : a = b) : Ending.returned (.tuple #[.agg #[.bool a.1.p.s, .int .i64 a.1.p.H.toInt, .int .i64 a.1.p.L.toInt, .int .i64 a.1.p.b, .string a.1.t], .bool a.2]) = Ending.returned (.tuple #[.agg #[.bool b.1.p.s, .int .i64 b.1.p.H.toInt, .int .i64 b.1.p.L.toInt, .int .i64 b.1.p.b, .string b.1.t], .bool b.2]) := by rw [h]

set_option maxRecDepth 10000 in
set_option maxHeartbeats 4000000 in
theorem sBlockOf_any (s : Bool) (H L : BitVec 64) (ap : Option Addr) (np cp : Nat) (ab : Option Addr) (nb cb : Nat) (ps : List Pl) (bs : List Bk) (w : World) (hnp : np = ps.length) (hnb : nb = bs.length) (hP : RowG KPl w ap ps) (hK : RowG KBk w ab bs) (hlp : np ≤ 9000000000) (hl : nb ≤ 9000000000) (hst : ∀ q ∈ bs, q.t.size ≤ 9223372036854775807) :
    Calls Tryz.prog 55 #[.agg #[.slice ap np cp, .slice ab nb cb], .agg #[.bool s, .int .i64 H.toInt, .int .i64 L.toInt]] w fun e w' => e = .returned (.tuple #[.agg #[.bool (bkR (planB ps bs) s H L bs).1.p.s, .int .i64 (bkR (planB ps bs) s H L bs).1.p.H.toInt, .int .i64 (bkR (planB ps bs) s H L bs).1.p.L.toInt, .int .i64 (bkR (planB ps bs) s H L bs).1.p.b, .string (bkR (planB ps bs) s H L bs).1.t], .bool (bkR (planB ps bs) s H L bs).2]) ∧ Below w.heap.size w w' := by
  have HPO := hidP (fun W h => sPlanOk_any ap np cp ab nb cb ps bs W hnp hnb (hP.later h) (hK.later h) hlp hl hst)
  have HBP := hidP hP
  have HBK := hidP hK
  have HN := hidP hnb
  clear hP hK hnp hnb hst
  generalize planB ps bs = r at *
  go_enter Tryz.func55, Tryz.ntmps55
  go_wp2_with fail
  obtain ⟨u0, u1⟩ := box2 (u := .slice ap np cp) (v := .slice ab nb cb) w 40
  have uB := alloc_below w (.cells #[.slice ap np cp, .slice ab nb cb] 40)
  have uL := alloc_lt w (.cells #[.slice ap np cp, .slice ab nb cb] 40)
  have uS : (w.alloc (.cells #[.slice ap np cp, .slice ab nb cb] 40)).heap.size = w.heap.size + 1 := by simp
  generalize w.alloc (.cells #[.slice ap np cp, .slice ab nb cb] 40) = W1 at *
  obtain ⟨a0, a1, a2⟩ := box3A (s := s) (H := H) (L := L) W1 64
  have aB := alloc_below W1 (.cells #[.bool s, .int .i64 H.toInt, .int .i64 L.toInt] 64)
  have aL := alloc_lt W1 (.cells #[.bool s, .int .i64 H.toInt, .int .i64 L.toInt] 64)
  have aS : (W1.alloc (.cells #[.bool s, .int .i64 H.toInt, .int .i64 L.toInt] 64)).heap.size = W1.heap.size + 1 := by simp
  generalize W1.alloc (.cells #[.bool s, .int .i64 H.toInt, .int .i64 L.toInt] 64) = W2 at *
  rw [uS] at a0 a1 a2 aL aS
  have kF := frzZ W2 71
  obtain ⟨k0, k1, k2, k3, k4⟩ := boxZ W2 71
  have kB := alloc_below W2 (.cells #[.bool false, .int .i64 0, .int .i64 0, .int .i64 0, .string ⟨#[]⟩] 71)
  have kL := alloc_lt W2 (.cells #[.bool false, .int .i64 0, .int .i64 0, .int .i64 0, .string ⟨#[]⟩] 71)
  have kS : (W2.alloc (.cells #[.bool false, .int .i64 0, .int .i64 0, .int .i64 0, .string ⟨#[]⟩] 71)).heap.size = W2.heap.size + 1 := by simp
  generalize W2.alloc (.cells #[.bool false, .int .i64 0, .int .i64 0, .int .i64 0, .string ⟨#[]⟩] 71) = W3 at *
  rw [aS] at k0 k1 k2 k3 k4 kL kS
  rw [aS] at kF
  have U0 := (kB.cell (show w.heap.size < W2.heap.size by omega)).trans ((aB.cell uL).trans u0)
  have U1 := (kB.cell (show w.heap.size < W2.heap.size by omega)).trans ((aB.cell uL).trans u1)
  have A0 := (kB.cell (show w.heap.size + 1 < W2.heap.size by omega)).trans a0
  have A1 := (kB.cell (show w.heap.size + 1 < W2.heap.size by omega)).trans a1
  have A2 := (kB.cell (show w.heap.size + 1 < W2.heap.size by omega)).trans a2
  have B3 := hidP ((uB.trans (aB.mono uB.size)).trans (kB.mono (Nat.le_trans uB.size aB.size)))
  have hs3 : W3.heap.size = w.heap.size + 3 := by omega
  have HP3 := hidP (HBP.out.later B3.out)
  have HK3 := hidP (HBK.out.later B3.out)
  clear u0 u1 uB uL uS a0 a1 a2 aB aL aS kB kS
  go_loopw [6] (fun t6 wr => ∃ k : Nat, k ≤ nb ∧ t6 = .int .i64 k ∧ bkR r s H L bs = bkR r s H L (bs.drop k) ∧ Below W3.heap.size W3 wr) (fun t6 _ => nb - (intOf t6).toNat)
  case atStart => exact ⟨0, Nat.zero_le _, rfl, rfl, Below.refl _ _⟩
  case round =>
    obtain ⟨k, hk, rfl, hix, hbel⟩ := hrel
    have U0r := (hbel.cell (show w.heap.size < W3.heap.size by omega)).trans U0
    have U1r := (hbel.cell (show w.heap.size < W3.heap.size by omega)).trans U1
    have A0r := (hbel.cell (show w.heap.size + 1 < W3.heap.size by omega)).trans A0
    have A1r := (hbel.cell (show w.heap.size + 1 < W3.heap.size by omega)).trans A1
    have A2r := (hbel.cell (show w.heap.size + 1 < W3.heap.size by omega)).trans A2
    have k0r := (hbel.cell (show w.heap.size + 1 + 1 < W3.heap.size by omega)).trans k0
    have k1r := (hbel.cell (show w.heap.size + 1 + 1 < W3.heap.size by omega)).trans k1
    have k2r := (hbel.cell (show w.heap.size + 1 + 1 < W3.heap.size by omega)).trans k2
    have k3r := (hbel.cell (show w.heap.size + 1 + 1 < W3.heap.size by omega)).trans k3
    have k4r := (hbel.cell (show w.heap.size + 1 + 1 < W3.heap.size by omega)).trans k4
    have kFr : ∀ o, wr.frozen? ⟨w.heap.size + 1 + 1, o, none⟩ = false := fun o => (hbel.frozen (show w.heap.size + 1 + 1 < W3.heap.size by omega)).trans (kF o)
    have hzr : w.heap.size + 3 ≤ wr.heap.size := by have := hbel.size; omega
    have BR := hidP (B3.out.trans (hbel.mono B3.out.size))
    have HBel := hidP hbel
    clear U0 U1 A0 A1 A2 k0 k1 k2 k3 k4 kF
    by_cases hlt : k < nb
    · have gk : decide ((k : Int) < (nb : Int)) = true := decide_eq_true (by omega)
      go_wp2_with fail
      refine (HPO.out _ BR.out).mono ?_
      rintro e w4 ⟨rfl, hb4⟩
      have U0a := (hb4.cell (show w.heap.size < wr.heap.size by omega)).trans U0r
      have U1a := (hb4.cell (show w.heap.size < wr.heap.size by omega)).trans U1r
      have A0a := (hb4.cell (show w.heap.size + 1 < wr.heap.size by omega)).trans A0r
      have A1a := (hb4.cell (show w.heap.size + 1 < wr.heap.size by omega)).trans A1r
      have A2a := (hb4.cell (show w.heap.size + 1 < wr.heap.size by omega)).trans A2r
      have k0a := (hb4.cell (show w.heap.size + 1 + 1 < wr.heap.size by omega)).trans k0r
      have k1a := (hb4.cell (show w.heap.size + 1 + 1 < wr.heap.size by omega)).trans k1r
      have k2a := (hb4.cell (show w.heap.size + 1 + 1 < wr.heap.size by omega)).trans k2r
      have k3a := (hb4.cell (show w.heap.size + 1 + 1 < wr.heap.size by omega)).trans k3r
      have k4a := (hb4.cell (show w.heap.size + 1 + 1 < wr.heap.size by omega)).trans k4r
      have kFa : ∀ o, w4.frozen? ⟨w.heap.size + 1 + 1, o, none⟩ = false := fun o => (hb4.frozen (show w.heap.size + 1 + 1 < wr.heap.size by omega)).trans (kFr o)
      clear U0r U1r A0r A1r A2r k0r k1r k2r k3r k4r kFr
      have hz4 : w.heap.size + 3 ≤ w4.heap.size := by have := hb4.size; omega
      have B4 := hidP (BR.out.trans (hb4.mono BR.out.size))
      have X4 := hidP (HBel.out.trans (hb4.mono HBel.out.size))
      clear hb4
      cases r
      · have HF : Hid (bkR false s H L bs = (Bk.zero, false)) := hidP rfl
        clear hix hbel
        go_wp2_with fail
        refine bodyPost_ret (v := .tuple #[.agg #[.bool false, .int .i64 0, .int .i64 0, .int .i64 0, .string ⟨#[]⟩], .bool false]) (by simp [results, Tryz.results55, go_sem, k0a, k1a, k2a, k3a, k4a]) rfl ⟨ret_bk (a := (Bk.zero, false)) HF.out.symm, ?_⟩
        repeat (with_reducible refine Below.setCell ?_ ?_ _; rotate_left; (focus (first | omega | (simp; omega))))
        exact B4.out
      · obtain ⟨p, o, q, rfl, hp, hq, c0, c1, c2, c3, c4⟩ := rowBk HK3.out k (by rw [← HN.out]; exact hlt)
        have d0 := (X4.out.cell hp).trans c0
        have d1 := (X4.out.cell hp).trans c1
        have d2 := (X4.out.cell hp).trans c2
        have d3 := (X4.out.cell hp).trans c3
        have d4 := (X4.out.cell hp).trans c4
        have dL : p < w4.heap.size := Nat.lt_of_lt_of_le hp X4.out.size
        have hix' : bkR true s H L bs = bkF s H L (bs.drop k) := hix
        rw [bkF_at s H L bs k q hq] at hix'
        have HX := hidP hix'
        have HH := hidP (sHasAddr_any q.p.s q.p.H q.p.L q.p.b s H L)
        have uL : w.heap.size < w4.heap.size := by omega
        have aL : w.heap.size + 1 < w4.heap.size := by omega
        clear c0 c1 c2 c3 c4 hq hix hix' hbel
        cases hh : hadB q.p.s q.p.H q.p.L q.p.b s H L
        · rw [hh] at HX HH
          go_wp2_with fail
          have HSx : Hid (∀ x, Below w4.heap.size w4 x → (x.cell? ⟨p, o + k * 5, none⟩ = some (.bool q.p.s) ∧ x.cell? ⟨p, o + k * 5 + 1, none⟩ = some (.int .i64 q.p.H.toInt) ∧ x.cell? ⟨p, o + k * 5 + 2, none⟩ = some (.int .i64 q.p.L.toInt) ∧ x.cell? ⟨p, o + k * 5 + 3, none⟩ = some (.int .i64 q.p.b) ∧ x.cell? ⟨p, o + k * 5 + 4, none⟩ = some (.string q.t) ∧ x.cell? ⟨w.heap.size, 1, none⟩ = some (.slice (some ⟨p, o, none⟩) nb cb) ∧ x.cell? ⟨w.heap.size + 1, 0, none⟩ = some (.bool s) ∧ x.cell? ⟨w.heap.size + 1, 1, none⟩ = some (.int .i64 H.toInt) ∧ x.cell? ⟨w.heap.size + 1, 2, none⟩ = some (.int .i64 L.toInt) ∧ Below w4.heap.size w4 x)) := hidP fun x h =>
            ⟨(h.cell dL).trans d0, (h.cell dL).trans d1, (h.cell dL).trans d2, (h.cell dL).trans d3, (h.cell dL).trans d4, (h.cell uL).trans U1a, (h.cell aL).trans A0a, (h.cell aL).trans A1a, (h.cell aL).trans A2a, h⟩
          refine wp_region_held_drew (S := (fun x => x.cell? ⟨p, o + k * 5, none⟩ = some (.bool q.p.s) ∧ x.cell? ⟨p, o + k * 5 + 1, none⟩ = some (.int .i64 q.p.H.toInt) ∧ x.cell? ⟨p, o + k * 5 + 2, none⟩ = some (.int .i64 q.p.L.toInt) ∧ x.cell? ⟨p, o + k * 5 + 3, none⟩ = some (.int .i64 q.p.b) ∧ x.cell? ⟨p, o + k * 5 + 4, none⟩ = some (.string q.t) ∧ x.cell? ⟨w.heap.size, 1, none⟩ = some (.slice (some ⟨p, o, none⟩) nb cb) ∧ x.cell? ⟨w.heap.size + 1, 0, none⟩ = some (.bool s) ∧ x.cell? ⟨w.heap.size + 1, 1, none⟩ = some (.int .i64 H.toInt) ∧ x.cell? ⟨w.heap.size + 1, 2, none⟩ = some (.int .i64 L.toInt) ∧ Below w4.heap.size w4 x)) (by kernel_rfl) ?_ (fun hHeld => ?_)
          · try dsimp only
            exact HSx.out _ (Below.refl _ _).drew
          refine tk 0 18 rfl ?_; simp only [pa]
          refine tk 1 19 rfl ?_; simp only [pa]
          refine tk 2 20 rfl ?_; simp only [pa]
          refine tk 3 21 rfl ?_; simp only [pa]
          refine tk 4 22 rfl ?_; simp only [pa]
          refine tk 5 23 rfl ?_; simp only [pa]
          refine tk 6 24 rfl ?_; simp only [pa]
          refine wpAnyH_ready (rs := [7]) (by kernel_rfl) (by simp) ?_
          refine AllReadyH.cons rfl (fun K hK => ?_) AllReadyH.nil
          go_simp
          go_wp2_with (first | (go_at_call 89; refine (HH.out _).mono ?_; rintro e w6 ⟨rfl, hb6⟩; have b6 := (hHeld.2.2.2.2.2.2.2.2.2).trans (hb6.mono (hHeld.2.2.2.2.2.2.2.2.2).size)))
          refine hK.out _ _ ?_ (fun hHeld => ?_)
          · try dsimp only
            exact HSx.out _ b6
          clear hK K
          have HE := hidP (hHeld.2.2.2.2.2.2.2.2.2)
          refine wpAnyH_done (by kernel_rfl) ?_ _
          clear hHeld
          go_wp2_with fail
          go_roundw
          case rel => exact ⟨k + 1, by omega, by go_num, by rw [HX.out]; simp [bkR], X4.out.trans (HE.out.mono X4.out.size)⟩
          case measure => simp [intOf]; omega
        · rw [hh] at HX HH
          have HF : Hid (bkR true s H L bs = (q, true)) := hidP (by rw [HX.out]; simp)
          go_wp2_with fail
          have HSx : Hid (∀ x, Below w4.heap.size w4 x → (x.cell? ⟨p, o + k * 5, none⟩ = some (.bool q.p.s) ∧ x.cell? ⟨p, o + k * 5 + 1, none⟩ = some (.int .i64 q.p.H.toInt) ∧ x.cell? ⟨p, o + k * 5 + 2, none⟩ = some (.int .i64 q.p.L.toInt) ∧ x.cell? ⟨p, o + k * 5 + 3, none⟩ = some (.int .i64 q.p.b) ∧ x.cell? ⟨p, o + k * 5 + 4, none⟩ = some (.string q.t) ∧ x.cell? ⟨w.heap.size, 1, none⟩ = some (.slice (some ⟨p, o, none⟩) nb cb) ∧ x.cell? ⟨w.heap.size + 1, 0, none⟩ = some (.bool s) ∧ x.cell? ⟨w.heap.size + 1, 1, none⟩ = some (.int .i64 H.toInt) ∧ x.cell? ⟨w.heap.size + 1, 2, none⟩ = some (.int .i64 L.toInt) ∧ Below w4.heap.size w4 x)) := hidP fun x h =>
            ⟨(h.cell dL).trans d0, (h.cell dL).trans d1, (h.cell dL).trans d2, (h.cell dL).trans d3, (h.cell dL).trans d4, (h.cell uL).trans U1a, (h.cell aL).trans A0a, (h.cell aL).trans A1a, (h.cell aL).trans A2a, h⟩
          refine wp_region_held_drew (S := (fun x => x.cell? ⟨p, o + k * 5, none⟩ = some (.bool q.p.s) ∧ x.cell? ⟨p, o + k * 5 + 1, none⟩ = some (.int .i64 q.p.H.toInt) ∧ x.cell? ⟨p, o + k * 5 + 2, none⟩ = some (.int .i64 q.p.L.toInt) ∧ x.cell? ⟨p, o + k * 5 + 3, none⟩ = some (.int .i64 q.p.b) ∧ x.cell? ⟨p, o + k * 5 + 4, none⟩ = some (.string q.t) ∧ x.cell? ⟨w.heap.size, 1, none⟩ = some (.slice (some ⟨p, o, none⟩) nb cb) ∧ x.cell? ⟨w.heap.size + 1, 0, none⟩ = some (.bool s) ∧ x.cell? ⟨w.heap.size + 1, 1, none⟩ = some (.int .i64 H.toInt) ∧ x.cell? ⟨w.heap.size + 1, 2, none⟩ = some (.int .i64 L.toInt) ∧ Below w4.heap.size w4 x)) (by kernel_rfl) ?_ (fun hHeld => ?_)
          · try dsimp only
            exact HSx.out _ (Below.refl _ _).drew
          refine tk 0 18 rfl ?_; simp only [pa]
          refine tk 1 19 rfl ?_; simp only [pa]
          refine tk 2 20 rfl ?_; simp only [pa]
          refine tk 3 21 rfl ?_; simp only [pa]
          refine tk 4 22 rfl ?_; simp only [pa]
          refine tk 5 23 rfl ?_; simp only [pa]
          refine tk 6 24 rfl ?_; simp only [pa]
          refine wpAnyH_ready (rs := [7]) (by kernel_rfl) (by simp) ?_
          refine AllReadyH.cons rfl (fun K hK => ?_) AllReadyH.nil
          go_simp
          go_wp2_with (first | (go_at_call 89; refine (HH.out _).mono ?_; rintro e w6 ⟨rfl, hb6⟩; have b6 := (hHeld.2.2.2.2.2.2.2.2.2).trans (hb6.mono (hHeld.2.2.2.2.2.2.2.2.2).size)))
          refine hK.out _ _ ?_ (fun hHeld => ?_)
          · try dsimp only
            exact HSx.out _ b6
          clear hK K
          have HE := hidP (hHeld.2.2.2.2.2.2.2.2.2)
          refine wpAnyH_done (by kernel_rfl) ?_ _
          clear hHeld
          have hb6 := HE.out
          have hz6 : w.heap.size + 3 ≤ w6.heap.size := by have := hb6.size; omega
          have U0t := (hb6.cell (show w.heap.size < w4.heap.size by omega)).trans U0a
          have U1t := (hb6.cell (show w.heap.size < w4.heap.size by omega)).trans U1a
          have A0t := (hb6.cell (show w.heap.size + 1 < w4.heap.size by omega)).trans A0a
          have A1t := (hb6.cell (show w.heap.size + 1 < w4.heap.size by omega)).trans A1a
          have A2t := (hb6.cell (show w.heap.size + 1 < w4.heap.size by omega)).trans A2a
          have k0t := (hb6.cell (show w.heap.size + 1 + 1 < w4.heap.size by omega)).trans k0a
          have k1t := (hb6.cell (show w.heap.size + 1 + 1 < w4.heap.size by omega)).trans k1a
          have k2t := (hb6.cell (show w.heap.size + 1 + 1 < w4.heap.size by omega)).trans k2a
          have k3t := (hb6.cell (show w.heap.size + 1 + 1 < w4.heap.size by omega)).trans k3a
          have k4t := (hb6.cell (show w.heap.size + 1 + 1 < w4.heap.size by omega)).trans k4a
          have kFt : ∀ o, w6.frozen? ⟨w.heap.size + 1 + 1, o, none⟩ = false := fun o => (hb6.frozen (show w.heap.size + 1 + 1 < w4.heap.size by omega)).trans (kFa o)
          clear U0a U1a A0a A1a A2a k0a k1a k2a k3a k4a kFa
          have e0 := (hb6.cell dL).trans d0
          have e1 := (hb6.cell dL).trans d1
          have e2 := (hb6.cell dL).trans d2
          have e3 := (hb6.cell dL).trans d3
          have e4 := (hb6.cell dL).trans d4
          have B6 := hidP (B4.out.trans (hb6.mono B4.out.size))
          clear hb6 d0 d1 d2 d3 d4
          go_wp2_with fail
          refine bodyPost_ret (v := .tuple #[.agg #[.bool q.p.s, .int .i64 q.p.H.toInt, .int .i64 q.p.L.toInt, .int .i64 q.p.b, .string q.t], .bool true]) (by simp [results, Tryz.results55, go_sem, k0t, k1t, k2t, k3t, k4t]) rfl ⟨ret_bk (a := (q, true)) HF.out.symm, ?_⟩
          repeat (with_reducible refine Below.setCell ?_ ?_ _; rotate_left; (focus (first | omega | (simp; omega))))
          exact B6.out
    · have gk : decide ((k : Int) < (nb : Int)) = false := decide_eq_false (by omega)
      have HF : Hid (bkR r s H L bs = (Bk.zero, false)) := by
        rw [List.drop_of_length_le (by have := HN.out; omega)] at hix
        refine hidP (hix.trans ?_)
        unfold bkR; split <;> rfl
      clear hbel hix
      go_wp2_with fail
      refine bodyPost_ret (v := .tuple #[.agg #[.bool false, .int .i64 0, .int .i64 0, .int .i64 0, .string ⟨#[]⟩], .bool false]) (by simp [results, Tryz.results55, go_sem, k0r, k1r, k2r, k3r, k4r]) rfl ⟨ret_bk (a := (Bk.zero, false)) HF.out.symm, ?_⟩
      repeat (with_reducible refine Below.setCell ?_ ?_ _; rotate_left; (focus (first | omega | (simp; omega))))
      exact BR.out

end Go.Proofs.YtngcbhbcocnbeaaGreat
namespace Go.Proofs.YtngcbhbcocnbeaaGreat
open Go.RowKit

theorem had_in {p : Pf} {s : Bool} {H L : BitVec 64} (h : hadB p.s p.H p.L p.b s H L = true) : s = p.s ∧ p.ad ≤ adrN H L ∧ adrN H L < p.ad + 2 ^ p.sz := by
  unfold hadB at h
  rw [Bool.and_eq_true, Bool.and_eq_true] at h
  obtain ⟨hp, _, hh⟩ := h
  obtain ⟨x, hx, rfl⟩ := Sp.of_pok (p := p) hp
  have e : ((wd x.s : Int) - ((wd x.s : Int) - x.n)).toNat = x.n := by omega
  have e1 : (Sp.pre x).sz = x.n := e
  have hh2 : hasB x.s x.H x.L ((wd x.s : Int) - ((wd x.s : Int) - x.n)).toNat s H L = true := hh
  rw [e] at hh2
  rw [e1]
  refine (one_in (t := ⟨s, H, L, 0⟩) (x := x) rfl hx).1 ?_
  unfold wB withB
  rw [decide_eq_true (Nat.zero_le _), Bool.true_and]
  exact hh2
theorem fol_had {p q : Pf} (h : fol p q) {s : Bool} {H L : BitVec 64} (h1 : hadB p.s p.H p.L p.b s H L = true) (h2 : hadB q.s q.H q.L q.b s H L = true) : False := by
  obtain ⟨a1, a2, a3⟩ := had_in h1
  obtain ⟨b1, b2, b3⟩ := had_in h2
  rcases h with ⟨c1, c2⟩ | ⟨c1, c2⟩
  · rw [← a1] at c1; rw [← b1, c1] at c2; cases c2
  · omega
theorem blocks_pw {ps : List Pl} : ∀ (bs : List Bk) (r : Option Pf), (∀ p, r = some p → p.pk = true) → blocksI ps r bs = true → bs.Pairwise (fun q u => fol q.p u.p) ∧ ∀ p, r = some p → ∀ q ∈ bs, fol p q.p
  | [], _, _, _ => ⟨List.Pairwise.nil, fun _ _ _ h => by cases h⟩
  | q :: t, r, hr, h => by
      unfold blocksI at h
      rw [Bool.and_eq_true, Bool.and_eq_true, Bool.and_eq_true] at h
      obtain ⟨⟨⟨_, hc⟩, hf⟩, ht⟩ := h
      have hq := carB_pk hc
      obtain ⟨h1, h2⟩ := blocks_pw t (some q.p) (fun p hp => by cases hp; exact hq) ht
      have h3 := h2 q.p rfl
      refine ⟨List.pairwise_cons.2 ⟨h3, h1⟩, fun p hp u hu => ?_⟩
      subst hp
      have hf' : folB p q.p = true := hf
      unfold folB at hf'
      rw [Bool.and_eq_true, Bool.not_eq_true'] at hf'
      have hpq := fol_of (hr p rfl) hq (of_decide_eq_true hf'.1) hf'.2
      rcases List.mem_cons.1 hu with rfl | hu
      · exact hpq
      · exact fol_trans hpq (h3 u hu)
theorem txt_ne {a b : ByteArray} (h : a ≠ b) : (a.toList == b.toList) = false := by
  rw [ByteArray.toList_eq, ByteArray.toList_eq]
  obtain ⟨⟨x⟩⟩ := a
  obtain ⟨⟨y⟩⟩ := b
  have hn : x ≠ y := fun e => h (by rw [e])
  simpa using hn
theorem txt_eq (a : ByteArray) : (a.toList == a.toList) = true := by simp
/-- Whether a block of this owner's has the address. -/
def lieF (t : ByteArray) (s : Bool) (H L : BitVec 64) (q : Bk) : Bool := decide (q.t = t) && hadB q.p.s q.p.H q.p.L q.p.b s H L
def lieB (bs : List Bk) (l : Ls) : Bool := bs.any (lieF l.t l.a.s l.a.H l.a.L)
/-- Whether the first block that has the address is this owner's. -/
def lieS (bs : List Bk) (l : Ls) : Bool := (bkF l.a.s l.a.H l.a.L bs).2 && decide ((bkF l.a.s l.a.H l.a.L bs).1.t = l.t)
theorem lie_same : ∀ (bs : List Bk) (l : Ls), bs.Pairwise (fun q u => fol q.p u.p) → lieB bs l = lieS bs l
  | [], l, _ => rfl
  | q :: t, l, h => by
      have hp := List.pairwise_cons.1 h
      unfold lieB lieS bkF
      rw [List.any_cons]
      by_cases hh : hadB q.p.s q.p.H q.p.L q.p.b l.a.s l.a.H l.a.L = true
      · rw [if_pos hh]
        have hn : t.any (lieF l.t l.a.s l.a.H l.a.L) = false := by
          rw [List.any_eq_false]
          intro u hu hc
          unfold lieF at hc
          rw [Bool.and_eq_true] at hc
          exact fol_had (hp.1 u hu) hh hc.2
        rw [hn, Bool.or_false, Bool.true_and]
        unfold lieF
        rw [hh, Bool.and_true]
      · rw [if_neg hh]
        have hf : lieF l.t l.a.s l.a.H l.a.L q = false := by
          unfold lieF
          rw [Bool.not_eq_true] at hh
          rw [hh, Bool.and_false]
        rw [hf, Bool.false_or]
        exact lie_same t l hp.2
theorem plan_pw {ps : List Pl} {bs : List Bk} (h : planB ps bs = true) : bs.Pairwise (fun q u => fol q.p u.p) := by
  unfold planB at h
  rw [Bool.and_eq_true] at h
  have h2 := h.2
  rw [Bool.and_eq_true] at h2
  exact (blocks_pw bs none (fun _ h => by cases h) h2.2).1
/-- What both StateOk answer. -/
def stB (ps : List Pl) (bs : List Bk) (ls : List Ls) (T N : Int) (ss : List Ss) (X C : Int) : Bool := (planB ps bs && (bkB ls T N && (dkB ss X && decide (0 ≤ C)))) && ls.all (lieB bs)

end Go.Proofs.YtngcbhbcocnbeaaGreat
namespace Go.Proofs.YtngcbhbcocnbeaaGreat
open Go.RowKit

theorem st_bnd {ps : List Pl} {bs : List Bk} {ls : List Ls} {T N : Int} {ss : List Ss} {X C : Int} (h : stB ps bs ls T N ss X C = true) : Bnd ps bs ls ss := by
  unfold stB planB bkB dkB at h
  simp only [Bool.and_eq_true, decide_eq_true_eq] at h
  obtain ⟨⟨⟨⟨h1, h2⟩, _, h3⟩, ⟨⟨h4, _⟩, h5, _⟩, ⟨⟨h6, _⟩, h7⟩, _⟩, _⟩ := h
  exact ⟨h1, h2, h4, by omega, blocks_12 ps bs none h3, leases_12 T N ls none h5, sess_200 X ss 0 h7⟩

end Go.Proofs.YtngcbhbcocnbeaaGreat
namespace Go.Proofs.YtngcbhbcocnbeaaGreat
open Go.RowKit

set_option maxHeartbeats 1000000 in
theorem idx_lie (f : Bk → Bool) (ob cb : Nat) (a : Option Addr) (n cap : Nat) (ps : List Bk) (w : World) (hn : n = ps.length) (hB : RowG KBk w a ps) (hl : n ≤ 9000000000)
    (hf : ∀ (x : Bk) (W : World), Below w.heap.size w W → Calls Tryz.prog 124 #[.agg #[.bool x.p.s, .int .i64 x.p.H.toInt, .int .i64 x.p.L.toInt, .int .i64 x.p.b, .string x.t], .pointer (some ⟨ob, 0, none⟩), .pointer (some ⟨cb, 0, none⟩)] W fun e w' => e = .returned (.bool (f x)) ∧ Below W.heap.size W w') :
    Calls Tryz.prog 142 #[.slice a n cap, .func (.func 124) #[] #[.pointer (some ⟨ob, 0, none⟩), .pointer (some ⟨cb, 0, none⟩)]] w fun e w' => e = .returned (.int .i64 (ixF f 0 ps)) ∧ Below w.heap.size w w' := by
  have HB := hidP hB
  have HN := hidP hn
  have HF := hidP hf
  clear hB hn hf
  go_enter Tryz.func142, Tryz.ntmps142
  go_wp2_with fail
  go_loopw [5, 8] (fun _ t8 wr => ∃ k : Nat, k ≤ n ∧ t8 = .int .i64 k ∧ ixF f 0 ps = ixF f k (ps.drop k) ∧ Below w.heap.size w wr) (fun _ t8 _ => n - (intOf t8).toNat)
  case atStart => exact ⟨0, Nat.zero_le _, rfl, rfl, Below.refl _ _⟩
  case round =>
    obtain ⟨k, hk, rfl, hix, hbel⟩ := hrel
    by_cases hlt : k < n
    · obtain ⟨p, o, q, rfl, hp, hq, c0, c1, c2, c3, c4⟩ := rowBk HB.out k (by rw [← HN.out]; exact hlt)
      have d0 := (hbel.cell hp).trans c0
      have d1 := (hbel.cell hp).trans c1
      have d2 := (hbel.cell hp).trans c2
      have d3 := (hbel.cell hp).trans c3
      have d4 := (hbel.cell hp).trans c4
      have HBel := hidP hbel
      have hst := ixF_step f ps k q hq
      rw [hst] at hix
      have HX := hidP hix
      have HFq := hidP (HF.out q _ hbel)
      clear hbel c0 c1 c2 c3 c4 hq hix hst
      cases hfq : f q
      · rw [hfq] at HX HFq
        go_wp2_with (first | (go_at_call 124; refine (HFq.out).mono ?_; rintro e w2 ⟨rfl, hb2⟩))
        have HB2 := hidP (HBel.out.trans (hb2.mono HBel.out.size))
        clear hb2 HBel d0 d1 d2 d3 d4
        go_wp2_with fail
        go_roundw
        case rel => exact ⟨k + 1, by omega, by go_num, by rw [HX.out]; simp, HB2.out⟩
        case measure => simp [intOf]; omega
      · rw [hfq] at HX HFq
        go_wp2_with (first | (go_at_call 124; refine (HFq.out).mono ?_; rintro e w2 ⟨rfl, hb2⟩))
        have HB2 := hidP (HBel.out.trans (hb2.mono HBel.out.size))
        clear hb2 HBel d0 d1 d2 d3 d4
        go_wp2_with fail
        go_ret
        exact ⟨ret_i (by rw [HX.out]; simp), HB2.out⟩
    · have HX : Hid (ixF f 0 ps = -1) := by
        rw [List.drop_of_length_le (by have := HN.out; omega)] at hix
        exact hidP hix
      have HBel := hidP hbel
      clear hbel hix
      go_wp2_with fail
      go_ret
      exact ⟨ret_i HX.out.symm, HBel.out⟩

set_option maxHeartbeats 1000000 in
theorem cont_lie (f : Bk → Bool) (ob cb : Nat) (a : Option Addr) (n cap : Nat) (ps : List Bk) (w : World) (hn : n = ps.length) (hB : RowG KBk w a ps) (hl : n ≤ 9000000000)
    (hf : ∀ (x : Bk) (W : World), Below w.heap.size w W → Calls Tryz.prog 124 #[.agg #[.bool x.p.s, .int .i64 x.p.H.toInt, .int .i64 x.p.L.toInt, .int .i64 x.p.b, .string x.t], .pointer (some ⟨ob, 0, none⟩), .pointer (some ⟨cb, 0, none⟩)] W fun e w' => e = .returned (.bool (f x)) ∧ Below W.heap.size W w') :
    Calls Tryz.prog 123 #[.slice a n cap, .func (.func 124) #[] #[.pointer (some ⟨ob, 0, none⟩), .pointer (some ⟨cb, 0, none⟩)]] w fun e w' => e = .returned (.bool (ps.any f)) ∧ Below w.heap.size w w' := by
  have H := hidP (idx_lie f ob cb a n cap ps w hn hB hl hf)
  have HA := hidP (ixF_any f ps 0 (by omega))
  clear hn hB hl hf
  go_enter Tryz.func123, Tryz.ntmps123
  go_wp2_with fail
  refine (H.out).mono ?_
  rintro e w2 ⟨rfl, hb2⟩
  go_wp2_with fail
  go_ret
  exact ⟨ret_b HA.out, hb2⟩


set_option maxHeartbeats 1000000 in
theorem lie1_any (t : ByteArray) (s : Bool) (H L : BitVec 64) (q : Bk) (ob cb : Nat) (w : World) (hob : ob < w.heap.size) (hcb : cb < w.heap.size) (y0 : w.cell? ⟨ob, 0, none⟩ = some (.string t)) (x0 : w.cell? ⟨cb, 0, none⟩ = some (.bool s)) (x1 : w.cell? ⟨cb, 1, none⟩ = some (.int .i64 H.toInt)) (x2 : w.cell? ⟨cb, 2, none⟩ = some (.int .i64 L.toInt)) :
    Calls Tryz.prog 124 #[.agg #[.bool q.p.s, .int .i64 q.p.H.toInt, .int .i64 q.p.L.toInt, .int .i64 q.p.b, .string q.t], .pointer (some ⟨ob, 0, none⟩), .pointer (some ⟨cb, 0, none⟩)] w fun e w' => e = .returned (.bool (lieF t s H L q)) ∧ Below w.heap.size w w' := by
  have HW := hidP (iHasAddr_any q.p.s q.p.H q.p.L q.p.b s H L)
  have hne : cb ≠ w.heap.size := by omega
  have hno : ob ≠ w.heap.size := by omega
  unfold lieF
  by_cases h1 : q.t = t
  · rw [decide_eq_true h1, Bool.true_and]
    subst h1
    generalize hadB q.p.s q.p.H q.p.L q.p.b s H L = r at *
    go_enter Tryz.func124, Tryz.ntmps124
    go_wp2_with fail
    refine (HW.out _).mono ?_
    rintro e w1 ⟨rfl, hb1⟩
    go_wp2_with fail
    go_ret
    refine ⟨by cases r <;> rfl, ?_⟩
    repeat (first | with_reducible exact Below.refl _ _ | (with_reducible refine Below.drew ?_) | (with_reducible refine Below.alloc ?_ ?_ _; rotate_left; (focus (first | omega | (simp; omega) | (simp; done)))) | (with_reducible refine Below.setCell ?_ ?_ _; rotate_left; (focus (first | omega | (simp; omega) | (simp; done)))) | (with_reducible refine Below.trans ?_ (hb1.mono ?_); rotate_left; (focus (first | omega | (simp; omega) | (simp; done)))))
  · rw [decide_eq_false h1, Bool.false_and]
    have h2 : decide (q.t = t) = false := decide_eq_false h1
    have h3 := txt_ne h1
    go_enter Tryz.func124, Tryz.ntmps124
    go_wp2_with fail
    go_ret
    exact ⟨rfl, (Below.refl _ _).alloc (Nat.le_refl _) _⟩

theorem box1T (w : World) (t : TypeId) (u : Value) : (w.alloc (.cells #[u] t)).cell? ⟨w.heap.size, 0, none⟩ = some u := by simp [go_sem]

set_option maxHeartbeats 2000000 in
theorem liesWith_any (sb : Nat) (ab : Option Addr) (nb cb : Nat) (bs : List Bk) (l : Ls) (w : World) (hn : nb = bs.length) (hB : RowG KBk w ab bs) (hl : nb ≤ 9000000000) (hs : sb < w.heap.size) (s1 : w.cell? ⟨sb, 1, none⟩ = some (.slice ab nb cb)) :
    Calls Tryz.prog 99 #[.pointer (some ⟨sb, 0, none⟩), .agg #[.bool l.a.s, .int .i64 l.a.H.toInt, .int .i64 l.a.L.toInt], .string l.t] w fun e w' => e = .returned (.bool (lieB bs l)) ∧ Below w.heap.size w w' := by
  unfold lieB
  have e1 : sb ≠ w.heap.size := by omega
  have e2 : sb ≠ w.heap.size + 1 := by omega
  have x1 : (w.alloc (.cells #[.bool l.a.s, .int .i64 l.a.H.toInt, .int .i64 l.a.L.toInt] 64)).cell? ⟨w.heap.size, 0, none⟩ = some (.bool l.a.s) ∧ (w.alloc (.cells #[.bool l.a.s, .int .i64 l.a.H.toInt, .int .i64 l.a.L.toInt] 64)).cell? ⟨w.heap.size, 1, none⟩ = some (.int .i64 l.a.H.toInt) ∧ (w.alloc (.cells #[.bool l.a.s, .int .i64 l.a.H.toInt, .int .i64 l.a.L.toInt] 64)).cell? ⟨w.heap.size, 2, none⟩ = some (.int .i64 l.a.L.toInt) := ⟨by simp [go_sem], by simp [go_sem], by simp [go_sem]⟩
  have b1 := alloc_below w (.cells #[.bool l.a.s, .int .i64 l.a.H.toInt, .int .i64 l.a.L.toInt] 64)
  have l1 := alloc_lt w (.cells #[.bool l.a.s, .int .i64 l.a.H.toInt, .int .i64 l.a.L.toInt] 64)
  have z1 : (w.alloc (.cells #[.bool l.a.s, .int .i64 l.a.H.toInt, .int .i64 l.a.L.toInt] 64)).heap.size = w.heap.size + 1 := by simp
  have b2 := alloc_below (w.alloc (.cells #[.bool l.a.s, .int .i64 l.a.H.toInt, .int .i64 l.a.L.toInt] 64)) (.cells #[.string l.t] 9)
  have l2 := alloc_lt (w.alloc (.cells #[.bool l.a.s, .int .i64 l.a.H.toInt, .int .i64 l.a.L.toInt] 64)) (.cells #[.string l.t] 9)
  have y0 := box1T (w.alloc (.cells #[.bool l.a.s, .int .i64 l.a.H.toInt, .int .i64 l.a.L.toInt] 64)) 9 (.string l.t)
  rw [z1] at l2 y0
  have HC : Hid (Calls Tryz.prog 123 #[.slice ab nb cb, .func (.func 124) #[] #[.pointer (some ⟨w.heap.size + 1, 0, none⟩), .pointer (some ⟨w.heap.size, 0, none⟩)]] ((w.alloc (.cells #[.bool l.a.s, .int .i64 l.a.H.toInt, .int .i64 l.a.L.toInt] 64)).alloc (.cells #[.string l.t] 9)) fun e w' => e = .returned (.bool (bs.any (lieF l.t l.a.s l.a.H l.a.L))) ∧ Below ((w.alloc (.cells #[.bool l.a.s, .int .i64 l.a.H.toInt, .int .i64 l.a.L.toInt] 64)).alloc (.cells #[.string l.t] 9)).heap.size ((w.alloc (.cells #[.bool l.a.s, .int .i64 l.a.H.toInt, .int .i64 l.a.L.toInt] 64)).alloc (.cells #[.string l.t] 9)) w') := by
    refine hidP (cont_lie (lieF l.t l.a.s l.a.H l.a.L) (w.heap.size + 1) w.heap.size ab nb cb bs _ hn ((hB.later b1).later b2) hl (fun q W hW => ?_))
    have q1 := Nat.lt_of_lt_of_le l2 hW.size
    have l3 : w.heap.size < ((w.alloc (.cells #[.bool l.a.s, .int .i64 l.a.H.toInt, .int .i64 l.a.L.toInt] 64)).alloc (.cells #[.string l.t] 9)).heap.size := Nat.lt_of_lt_of_le l1 b2.size
    exact lie1_any l.t l.a.s l.a.H l.a.L q (w.heap.size + 1) w.heap.size W q1 (Nat.lt_of_lt_of_le l3 hW.size) ((hW.cell l2).trans y0) ((hW.cell l3).trans ((b2.cell l1).trans x1.1)) ((hW.cell l3).trans ((b2.cell l1).trans x1.2.1)) ((hW.cell l3).trans ((b2.cell l1).trans x1.2.2))
  have HB2 := hidP (b1.trans (b2.mono b1.size))
  clear x1 b1 l1 z1 b2 l2 y0 hB hn
  go_enter Tryz.func99, Tryz.ntmps99
  go_wp2_with fail
  refine (HC.out).mono ?_
  rintro e w2 ⟨rfl, hb2⟩
  have HE := hidP (HB2.out.trans (hb2.mono HB2.out.size))
  clear hb2 HB2 HC
  go_wp2_with fail
  go_ret
  exact ⟨rfl, HE.out⟩

theorem all_at (ls : List Ls) (f : Ls → Bool) (k : Nat) (q : Ls) (h : ls[k]? = some q) : (ls.drop k).all f = (f q && (ls.drop (k + 1)).all f) := by
  have hk : k < ls.length := by
    rcases Nat.lt_or_ge k ls.length with h' | h'
    · exact h'
    · rw [List.getElem?_eq_none h'] at h; cases h
  rw [List.drop_eq_getElem_cons hk]
  rw [List.getElem?_eq_getElem hk] at h
  cases h; rfl

set_option maxRecDepth 10000 in
set_option maxHeartbeats 2000000 in
theorem leasesLie_any (sb : Nat) (ab : Option Addr) (nb cb : Nat) (bs : List Bk) (a : Option Addr) (n c : Nat) (ls : List Ls) (w : World) (hnb : nb = bs.length) (hK : RowG KBk w ab bs) (hlb : nb ≤ 9000000000) (hn : n = ls.length) (hB : RowG KLs w a ls) (hl : n ≤ 9000000000) (hs : sb < w.heap.size) (s1 : w.cell? ⟨sb, 1, none⟩ = some (.slice ab nb cb)) (s2 : w.cell? ⟨sb, 2, none⟩ = some (.slice a n c)) :
    Calls Tryz.prog 65 #[.pointer (some ⟨sb, 0, none⟩)] w fun e w' => e = .returned (.bool (ls.all (lieB bs))) ∧ Below w.heap.size w w' := by
  have HR := hidP hB
  have HK := hidP hK
  have HN := hidP hn
  have HNB := hidP hnb
  have HS1 := hidP s1
  clear hB hK hn hnb s1
  go_enter Tryz.func65, Tryz.ntmps65
  go_wp2_with fail
  go_loopw [4, 11] (fun _ t11 wr => ∃ k : Nat, k ≤ n ∧ t11 = .int .i64 k ∧ ls.all (lieB bs) = (ls.drop k).all (lieB bs) ∧ Below w.heap.size w wr) (fun _ t11 _ => n - (intOf t11).toNat)
  case atStart => exact ⟨0, Nat.zero_le _, rfl, rfl, Below.refl _ _⟩
  case round =>
    obtain ⟨k, hk, rfl, hpo, hbel⟩ := hrel
    by_cases hlt : k < n
    · obtain ⟨p, o, q, rfl, hp, hq, c0, c1, c2, c3, c4, c5⟩ := rowLs HR.out k (by rw [← HN.out]; exact hlt)
      have d0 := (hbel.cell hp).trans c0
      have d1 := (hbel.cell hp).trans c1
      have d2 := (hbel.cell hp).trans c2
      have d3 := (hbel.cell hp).trans c3
      have d4 := (hbel.cell hp).trans c4
      have d5 := (hbel.cell hp).trans c5
      rw [all_at ls _ k q hq] at hpo
      have HPo := hidP hpo
      have HBel := hidP hbel
      have xB := alloc_below wr (.cells #[.bool q.a.s, .int .i64 q.a.H.toInt, .int .i64 q.a.L.toInt, .string q.t, .int .i64 q.k, .int .i64 q.u] 74)
      have HXB := hidP (hbel.trans (xB.mono hbel.size))
      have HL := hidP (liesWith_any sb ab nb cb bs q (wr.alloc (.cells #[.bool q.a.s, .int .i64 q.a.H.toInt, .int .i64 q.a.L.toInt, .string q.t, .int .i64 q.k, .int .i64 q.u] 74)) HNB.out ((HK.out.later hbel).later xB) hlb (Nat.lt_of_lt_of_le hs HXB.out.size) ((HXB.out.cell hs).trans HS1.out))
      clear c0 c1 c2 c3 c4 c5 hq hpo hbel xB s2
      cases hf : lieB bs q
      · rw [hf] at HL HPo
        have HF : Hid (ls.all (lieB bs) = false) := hidP (by rw [HPo.out]; rfl)
        clear HPo
        go_wp2_with fail
        refine (HL.out).mono ?_
        rintro e w2 ⟨rfl, hb2⟩
        have HE := hidP (HXB.out.trans (hb2.mono HXB.out.size))
        clear hb2 HXB HBel d0 d1 d2 d3 d4 d5 HL
        go_wp2_with fail
        go_ret
        exact ⟨ret_b HF.out.symm, HE.out⟩
      · rw [hf, Bool.true_and] at HPo
        rw [hf] at HL
        go_wp2_with fail
        refine (HL.out).mono ?_
        rintro e w2 ⟨rfl, hb2⟩
        have HE := hidP (HXB.out.trans (hb2.mono HXB.out.size))
        clear hb2 HXB HBel d0 d1 d2 d3 d4 d5 HL
        go_wp2_with fail
        go_roundw
        case rel => exact ⟨k + 1, by omega, by go_num, HPo.out, HE.out⟩
        case measure => simp [intOf]; omega
    · have HX : Hid (ls.all (lieB bs) = true) := by
        rw [List.drop_of_length_le (by have := HN.out; omega)] at hpo
        exact hidP hpo
      have HBel := hidP hbel
      clear hbel hpo
      go_wp2_with fail
      go_ret
      exact ⟨ret_b HX.out.symm, HBel.out⟩

end Go.Proofs.YtngcbhbcocnbeaaGreat
namespace Go.Proofs.YtngcbhbcocnbeaaGreat
open Go.RowKit

theorem boxLs {q : Ls} (w : World) (t : TypeId) : (w.alloc (.cells #[.bool q.a.s, .int .i64 q.a.H.toInt, .int .i64 q.a.L.toInt, .string q.t, .int .i64 q.k, .int .i64 q.u] t)).cell? ⟨w.heap.size, 0, none⟩ = some (.bool q.a.s) ∧ (w.alloc (.cells #[.bool q.a.s, .int .i64 q.a.H.toInt, .int .i64 q.a.L.toInt, .string q.t, .int .i64 q.k, .int .i64 q.u] t)).cell? ⟨w.heap.size, 1, none⟩ = some (.int .i64 q.a.H.toInt) ∧ (w.alloc (.cells #[.bool q.a.s, .int .i64 q.a.H.toInt, .int .i64 q.a.L.toInt, .string q.t, .int .i64 q.k, .int .i64 q.u] t)).cell? ⟨w.heap.size, 2, none⟩ = some (.int .i64 q.a.L.toInt) ∧ (w.alloc (.cells #[.bool q.a.s, .int .i64 q.a.H.toInt, .int .i64 q.a.L.toInt, .string q.t, .int .i64 q.k, .int .i64 q.u] t)).cell? ⟨w.heap.size, 3, none⟩ = some (.string q.t) ∧ (w.alloc (.cells #[.bool q.a.s, .int .i64 q.a.H.toInt, .int .i64 q.a.L.toInt, .string q.t, .int .i64 q.k, .int .i64 q.u] t)).cell? ⟨w.heap.size, 4, none⟩ = some (.int .i64 q.k) ∧ (w.alloc (.cells #[.bool q.a.s, .int .i64 q.a.H.toInt, .int .i64 q.a.L.toInt, .string q.t, .int .i64 q.k, .int .i64 q.u] t)).cell? ⟨w.heap.size, 5, none⟩ = some (.int .i64 q.u) := by
  have h := own_oneG KLs w 0 t q (Nat.zero_le _)
  exact ⟨World.ownsRow.cellAt h 0 (by show 0 < 1 * 6; omega), World.ownsRow.cellAt h 1 (by show 1 < 1 * 6; omega), World.ownsRow.cellAt h 2 (by show 2 < 1 * 6; omega), World.ownsRow.cellAt h 3 (by show 3 < 1 * 6; omega), World.ownsRow.cellAt h 4 (by show 4 < 1 * 6; omega), World.ownsRow.cellAt h 5 (by show 5 < 1 * 6; omega)⟩
theorem cmpW_ge (a b : Nat) : decide (0 ≤ cmpW (a : Int) (b : Int)) = !decide (a < b) := by
  unfold cmpW
  by_cases h : (a : Int) < b
  · rw [if_pos h, decide_eq_true (show a < b by omega)]; rfl
  · rw [if_neg h, decide_eq_false (show ¬ a < b by omega)]
    split <;> rfl
set_option maxRecDepth 10000 in
set_option maxHeartbeats 4000000 in
theorem leaseOk_any (a : Option Addr) (n c : Nat) (T N : Int) (q : Ls) (hs : q.t.size ≤ 9223372036854775807) (w : World) :
    Calls Tryz.prog 118 #[.agg #[.slice a n c, .int .i64 T, .int .i64 N], .agg #[.bool q.a.s, .int .i64 q.a.H.toInt, .int .i64 q.a.L.toInt, .string q.t, .int .i64 q.k, .int .i64 q.u]] w fun e w' => e = .returned (.bool (okLs T N q)) ∧ Below w.heap.size w w' := by
  have HA := hidP (iAddrOk_any q.a.s q.a.H.toInt q.a.L.toInt)
  have HO := hidP (fun w => iOwnerOk_any q.t w hs)
  have hv : okLs T N q = ((okB q.a.s q.a.H.toInt q.a.L.toInt && ownB q.t) && ((decide (1 ≤ q.k) && decide (q.k ≤ T)) && (decide (N < q.u) && decide (q.u ≤ 1000000000)))) := rfl
  rw [hv]
  clear hv
  generalize okB q.a.s q.a.H.toInt q.a.L.toInt = A at *
  generalize ownB q.t = O at *
  cases A
  · cases h1 : decide (1 ≤ q.k) <;> cases h3 : decide (N < q.u)
    all_goals
      go_enter Tryz.func118, Tryz.ntmps118
      go_wp2_with fail
      refine (HA.out _).mono ?_
      rintro e w2 ⟨rfl, hb2⟩
      have HB2 := hidP hb2
      clear hb2
      go_wp2_with fail
      go_ret
      exact ⟨rfl, ((alloc_below w _).alloc (by simp) _).trans (HB2.out.mono (by simp; omega))⟩
  · cases O <;> cases h1 : decide (1 ≤ q.k) <;> cases h2 : decide (q.k ≤ T) <;> cases h3 : decide (N < q.u)
    all_goals
      go_enter Tryz.func118, Tryz.ntmps118
      go_wp2_with fail
      refine (HA.out _).mono ?_
      rintro e w2 ⟨rfl, hb2⟩
      have hc : w2.cell? ⟨w.heap.size + 1, 3, none⟩ = some (.string q.t) := (hb2.cell (by simp)).trans (by simp [go_sem])
      have HB2 := hidP hb2
      clear hb2
      go_wp2_with fail
      refine (HO.out _).mono ?_
      rintro e w3 ⟨rfl, rfl⟩
      go_wp2_with fail
      go_ret
      exact ⟨rfl, ((alloc_below w _).alloc (by simp) _).trans (HB2.out.mono (by simp; omega))⟩

set_option maxRecDepth 10000 in
set_option maxHeartbeats 2000000 in
theorem leasesOk_any (a : Option Addr) (n c : Nat) (T N : Int) (ls : List Ls) (w : World) (hn : n = ls.length) (hB : RowG KLs w a ls) (hl : n ≤ 9000000000) (hst : ∀ q ∈ ls, q.t.size ≤ 9223372036854775807) :
    Calls Tryz.prog 96 #[.agg #[.slice a n c, .int .i64 T, .int .i64 N]] w fun e w' => e = .returned (.bool (leasesF T N none ls)) ∧ Below w.heap.size w w' := by
  have HB := hidP (fun W h => hB.later (w' := W) h)
  have HN := hidP hn
  have HST := hidP hst
  clear hB hn hst
  go_enter Tryz.func96, Tryz.ntmps96
  go_wp2_with fail
  obtain ⟨b0, b1, b2⟩ := box3B w 43 (.slice a n c) (.int .i64 T) (.int .i64 N)
  have bB := alloc_below w (.cells #[.slice a n c, .int .i64 T, .int .i64 N] 43)
  have bL := alloc_lt w (.cells #[.slice a n c, .int .i64 T, .int .i64 N] 43)
  have bS : (w.alloc (.cells #[.slice a n c, .int .i64 T, .int .i64 N] 43)).heap.size = w.heap.size + 1 := by simp
  generalize w.alloc (.cells #[.slice a n c, .int .i64 T, .int .i64 N] 43) = W1 at *
  have HR := hidP (HB.out _ bB)
  have HU := hidP bB
  clear bB HB
  go_loopw [3, 4, 8] (fun _ _ t8 wr => ∃ k : Nat, k ≤ n ∧ t8 = .int .i64 k ∧ leasesF T N none ls = leasesF T N (prvL ls k) (ls.drop k) ∧ (∀ r, prvL ls k = some r → r.ok = true) ∧ Below W1.heap.size W1 wr) (fun _ _ t8 _ => n - (intOf t8).toNat)
  case atStart => exact ⟨0, Nat.zero_le _, rfl, rfl, (fun r h => by cases h), Below.refl _ _⟩
  case round =>
    obtain ⟨k, hk, rfl, hpo, hpr, hbel⟩ := hrel
    have B0 := (hbel.cell bL).trans b0
    have B1 := (hbel.cell bL).trans b1
    have B2 := (hbel.cell bL).trans b2
    have BL : w.heap.size < wr.heap.size := Nat.lt_of_lt_of_le bL hbel.size
    by_cases hlt : k < n
    · obtain ⟨p, o, q, rfl, hp, hq, c0, c1, c2, c3, c4, c5⟩ := rowLs HR.out k (by rw [← HN.out]; exact hlt)
      have d0 := (hbel.cell hp).trans c0
      have d1 := (hbel.cell hp).trans c1
      have d2 := (hbel.cell hp).trans c2
      have d3 := (hbel.cell hp).trans c3
      have d4 := (hbel.cell hp).trans c4
      have d5 := (hbel.cell hp).trans c5
      have hpw : p < wr.heap.size := Nat.lt_of_lt_of_le hp hbel.size
      rw [drop_at hq] at hpo
      have hpo' : leasesF T N none ls = ((okLs T N q && ascA (prvL ls k) q.a) && leasesF T N (some q.a) (ls.drop (k + 1))) := hpo
      have HNx := hidP (prvL_next hq)
      have HPo := hidP hpo'
      have HPr := hidP hpr
      have HBel := hidP hbel
      have HP1 := hidP (leaseOk_any (some ⟨p, o, none⟩) n c T N q (HST.out q (List.mem_of_getElem? hq)))
      clear c0 c1 c2 c3 c4 c5 hq hpo hpo' hpr hbel b0 b1 b2
      cases hok : okLs T N q
      · rw [hok] at HP1 HPo
        have HF : Hid (leasesF T N none ls = false) := hidP (by rw [HPo.out]; rfl)
        clear HPo HPr HNx
        go_wp2_with fail
        obtain ⟨x0, x1, x2, x3, x4, x5⟩ := boxLs (q := q) wr 74
        have xB := alloc_below wr (.cells #[.bool q.a.s, .int .i64 q.a.H.toInt, .int .i64 q.a.L.toInt, .string q.t, .int .i64 q.k, .int .i64 q.u] 74)
        have xL := alloc_lt wr (.cells #[.bool q.a.s, .int .i64 q.a.H.toInt, .int .i64 q.a.L.toInt, .string q.t, .int .i64 q.k, .int .i64 q.u] 74)
        have xS : (wr.alloc (.cells #[.bool q.a.s, .int .i64 q.a.H.toInt, .int .i64 q.a.L.toInt, .string q.t, .int .i64 q.k, .int .i64 q.u] 74)).heap.size = wr.heap.size + 1 := by simp
        generalize wr.alloc (.cells #[.bool q.a.s, .int .i64 q.a.H.toInt, .int .i64 q.a.L.toInt, .string q.t, .int .i64 q.k, .int .i64 q.u] 74) = W2 at *
        have D0 := (xB.cell BL).trans B0
        have D1 := (xB.cell BL).trans B1
        have D2 := (xB.cell BL).trans B2
        have DL : w.heap.size < W2.heap.size := Nat.lt_of_lt_of_le BL xB.size
        have HXB := hidP xB
        clear xS
        clear xB
        have HSx : Hid (∀ x, Below W2.heap.size W2 x → (x.cell? ⟨w.heap.size, 0, none⟩ = some (.slice (some ⟨p, o, none⟩) n c) ∧ x.cell? ⟨w.heap.size, 1, none⟩ = some (.int .i64 T) ∧ x.cell? ⟨w.heap.size, 2, none⟩ = some (.int .i64 N) ∧ x.cell? ⟨wr.heap.size, 0, none⟩ = some (.bool q.a.s) ∧ x.cell? ⟨wr.heap.size, 1, none⟩ = some (.int .i64 q.a.H.toInt) ∧ x.cell? ⟨wr.heap.size, 2, none⟩ = some (.int .i64 q.a.L.toInt) ∧ x.cell? ⟨wr.heap.size, 3, none⟩ = some (.string q.t) ∧ x.cell? ⟨wr.heap.size, 4, none⟩ = some (.int .i64 q.k) ∧ x.cell? ⟨wr.heap.size, 5, none⟩ = some (.int .i64 q.u) ∧ Below W2.heap.size W2 x)) := hidP fun x h =>
          ⟨(h.cell DL).trans D0, (h.cell DL).trans D1, (h.cell DL).trans D2, (h.cell xL).trans x0, (h.cell xL).trans x1, (h.cell xL).trans x2, (h.cell xL).trans x3, (h.cell xL).trans x4, (h.cell xL).trans x5, h⟩
        refine wp_region_held_drew (S := (fun x => x.cell? ⟨w.heap.size, 0, none⟩ = some (.slice (some ⟨p, o, none⟩) n c) ∧ x.cell? ⟨w.heap.size, 1, none⟩ = some (.int .i64 T) ∧ x.cell? ⟨w.heap.size, 2, none⟩ = some (.int .i64 N) ∧ x.cell? ⟨wr.heap.size, 0, none⟩ = some (.bool q.a.s) ∧ x.cell? ⟨wr.heap.size, 1, none⟩ = some (.int .i64 q.a.H.toInt) ∧ x.cell? ⟨wr.heap.size, 2, none⟩ = some (.int .i64 q.a.L.toInt) ∧ x.cell? ⟨wr.heap.size, 3, none⟩ = some (.string q.t) ∧ x.cell? ⟨wr.heap.size, 4, none⟩ = some (.int .i64 q.k) ∧ x.cell? ⟨wr.heap.size, 5, none⟩ = some (.int .i64 q.u) ∧ Below W2.heap.size W2 x)) (by kernel_rfl) ?_ (fun hHeld => ?_)
        · try dsimp only
          exact HSx.out _ ((Below.refl _ _).drew)
        refine tk 0 13 rfl ?_; simp only [pa]
        refine tk 1 14 rfl ?_; simp only [pa]
        refine wpAnyH_ready (rs := [2]) (by kernel_rfl) (by simp) ?_
        refine AllReadyH.cons rfl (fun K hK => ?_) AllReadyH.nil
        go_simp
        go_wp2_with (first | (go_at_call 118; refine (HP1.out _).mono ?_; rintro e w2 ⟨rfl, hb2⟩; have b2 := (hHeld.2.2.2.2.2.2.2.2.2).trans (hb2.mono (hHeld.2.2.2.2.2.2.2.2.2).size)))
        refine hK.out _ _ ?_ (fun hHeld => ?_)
        · try dsimp only
          exact HSx.out _ b2
        clear hK K
        refine tk 3 16 rfl ?_; simp only [pa]
        refine tk 4 17 rfl ?_; simp only [pa]
        refine sk 5 18 rfl ?_; simp only [pa]
        refine sk 6 19 rfl ?_; simp only [pa]
        refine sk 7 20 rfl ?_; simp only [pa]
        refine sk 8 21 rfl ?_; simp only [pa]
        refine sk 9 22 rfl ?_; simp only [pa]
        refine sk 10 23 rfl ?_; simp only [pa]
        refine sk 11 24 rfl ?_; simp only [pa]
        refine sk 12 25 rfl ?_; simp only [pa]
        refine sk 13 26 rfl ?_; simp only [pa]
        refine sk 14 27 rfl ?_; simp only [pa]
        refine sk 15 28 rfl ?_; simp only [pa]
        refine sk 16 29 rfl ?_; simp only [pa]
        refine sk 17 30 rfl ?_; simp only [pa]
        refine sk 18 31 rfl ?_; simp only [pa]
        refine sk 19 32 rfl ?_; simp only [pa]
        refine tk 20 33 rfl ?_; simp only [pa]
        have HE := hidP (hHeld.2.2.2.2.2.2.2.2.2)
        refine wpAnyH_done (by kernel_rfl) ?_ _
        clear hHeld
        go_wp2_with fail
        go_ret
        exact ⟨ret_b HF.out.symm, HU.out.trans ((below_box HBel.out HBel.out.size HXB.out HE.out).mono HU.out.size)⟩
      · rw [hok] at HP1 HPo
        have HOk := hidP (okLs_ok hok)
        by_cases hk0 : k = 0
        · have g0 : decide ((0 : Int) < (k : Int)) = false := decide_eq_false (by omega)
          have g1 : decide (0 < k) = false := decide_eq_false (by omega)
          have HF : Hid (leasesF T N none ls = leasesF T N (some q.a) (ls.drop (k + 1))) := hidP (by rw [HPo.out, hk0]; rfl)
          clear HPo HPr hk0
          go_wp2_with fail
          obtain ⟨x0, x1, x2, x3, x4, x5⟩ := boxLs (q := q) wr 74
          have xB := alloc_below wr (.cells #[.bool q.a.s, .int .i64 q.a.H.toInt, .int .i64 q.a.L.toInt, .string q.t, .int .i64 q.k, .int .i64 q.u] 74)
          have xL := alloc_lt wr (.cells #[.bool q.a.s, .int .i64 q.a.H.toInt, .int .i64 q.a.L.toInt, .string q.t, .int .i64 q.k, .int .i64 q.u] 74)
          have xS : (wr.alloc (.cells #[.bool q.a.s, .int .i64 q.a.H.toInt, .int .i64 q.a.L.toInt, .string q.t, .int .i64 q.k, .int .i64 q.u] 74)).heap.size = wr.heap.size + 1 := by simp
          generalize wr.alloc (.cells #[.bool q.a.s, .int .i64 q.a.H.toInt, .int .i64 q.a.L.toInt, .string q.t, .int .i64 q.k, .int .i64 q.u] 74) = W2 at *
          have D0 := (xB.cell BL).trans B0
          have D1 := (xB.cell BL).trans B1
          have D2 := (xB.cell BL).trans B2
          have DL : w.heap.size < W2.heap.size := Nat.lt_of_lt_of_le BL xB.size
          have HXB := hidP xB
          clear xS
          clear xB
          have HSx : Hid (∀ x, Below W2.heap.size W2 x → (x.cell? ⟨w.heap.size, 0, none⟩ = some (.slice (some ⟨p, o, none⟩) n c) ∧ x.cell? ⟨w.heap.size, 1, none⟩ = some (.int .i64 T) ∧ x.cell? ⟨w.heap.size, 2, none⟩ = some (.int .i64 N) ∧ x.cell? ⟨wr.heap.size, 0, none⟩ = some (.bool q.a.s) ∧ x.cell? ⟨wr.heap.size, 1, none⟩ = some (.int .i64 q.a.H.toInt) ∧ x.cell? ⟨wr.heap.size, 2, none⟩ = some (.int .i64 q.a.L.toInt) ∧ x.cell? ⟨wr.heap.size, 3, none⟩ = some (.string q.t) ∧ x.cell? ⟨wr.heap.size, 4, none⟩ = some (.int .i64 q.k) ∧ x.cell? ⟨wr.heap.size, 5, none⟩ = some (.int .i64 q.u) ∧ Below W2.heap.size W2 x)) := hidP fun x h =>
            ⟨(h.cell DL).trans D0, (h.cell DL).trans D1, (h.cell DL).trans D2, (h.cell xL).trans x0, (h.cell xL).trans x1, (h.cell xL).trans x2, (h.cell xL).trans x3, (h.cell xL).trans x4, (h.cell xL).trans x5, h⟩
          refine wp_region_held_drew (S := (fun x => x.cell? ⟨w.heap.size, 0, none⟩ = some (.slice (some ⟨p, o, none⟩) n c) ∧ x.cell? ⟨w.heap.size, 1, none⟩ = some (.int .i64 T) ∧ x.cell? ⟨w.heap.size, 2, none⟩ = some (.int .i64 N) ∧ x.cell? ⟨wr.heap.size, 0, none⟩ = some (.bool q.a.s) ∧ x.cell? ⟨wr.heap.size, 1, none⟩ = some (.int .i64 q.a.H.toInt) ∧ x.cell? ⟨wr.heap.size, 2, none⟩ = some (.int .i64 q.a.L.toInt) ∧ x.cell? ⟨wr.heap.size, 3, none⟩ = some (.string q.t) ∧ x.cell? ⟨wr.heap.size, 4, none⟩ = some (.int .i64 q.k) ∧ x.cell? ⟨wr.heap.size, 5, none⟩ = some (.int .i64 q.u) ∧ Below W2.heap.size W2 x)) (by kernel_rfl) ?_ (fun hHeld => ?_)
          · try dsimp only
            exact HSx.out _ ((Below.refl _ _).drew)
          refine tk 0 13 rfl ?_; simp only [pa]
          refine tk 1 14 rfl ?_; simp only [pa]
          refine wpAnyH_ready (rs := [2]) (by kernel_rfl) (by simp) ?_
          refine AllReadyH.cons rfl (fun K hK => ?_) AllReadyH.nil
          go_simp
          go_wp2_with (first | (go_at_call 118; refine (HP1.out _).mono ?_; rintro e w2 ⟨rfl, hb2⟩; have b2 := (hHeld.2.2.2.2.2.2.2.2.2).trans (hb2.mono (hHeld.2.2.2.2.2.2.2.2.2).size)))
          refine hK.out _ _ ?_ (fun hHeld => ?_)
          · try dsimp only
            exact HSx.out _ b2
          clear hK K
          refine tk 3 16 rfl ?_; simp only [pa]
          refine tk 4 17 rfl ?_; simp only [pa]
          refine tk 5 18 rfl ?_; simp only [pa]
          refine tk 6 19 rfl ?_; simp only [pa]
          refine tk 7 20 rfl ?_; simp only [pa]
          refine sk 8 21 rfl ?_; simp only [pa]
          refine sk 9 22 rfl ?_; simp only [pa]
          refine sk 10 23 rfl ?_; simp only [pa]
          refine sk 11 24 rfl ?_; simp only [pa]
          refine sk 12 25 rfl ?_; simp only [pa]
          refine sk 13 26 rfl ?_; simp only [pa]
          refine sk 14 27 rfl ?_; simp only [pa]
          refine sk 15 28 rfl ?_; simp only [pa]
          refine sk 16 29 rfl ?_; simp only [pa]
          refine sk 17 30 rfl ?_; simp only [pa]
          refine sk 18 31 rfl ?_; simp only [pa]
          refine tk 19 32 rfl ?_; simp only [pa]
          refine tk 20 33 rfl ?_; simp only [pa]
          have HE := hidP (hHeld.2.2.2.2.2.2.2.2.2)
          refine wpAnyH_done (by kernel_rfl) ?_ _
          clear hHeld
          go_wp2_with fail
          go_roundw
          case rel => exact ⟨k + 1, by omega, by go_num, by rw [HF.out, HNx.out], (fun r h => by rw [HNx.out] at h; cases h; exact HOk.out), below_box HBel.out HBel.out.size HXB.out HE.out⟩
          case measure => simp [intOf]; omega
        · have g0 : decide ((0 : Int) < (k : Int)) = true := decide_eq_true (by omega)
          have g1 : decide (0 < k) = true := decide_eq_true (by omega)
          obtain ⟨J, hJ⟩ : ∃ J, J = k - 1 := ⟨_, rfl⟩
          have hkJ : k = J + 1 := by omega
          have hJi : (k : Int) - 1 = (J : Int) := by omega
          have hJn : J < n := by omega
          have wJ : IntKind.i64.wrap (J : Int) = (J : Int) := by rw [IntKind.wrap_i64]; omega
          have hJ0 : (0 : Int) ≤ (J : Int) := by omega
          have hJ1 : (J : Int) < (n : Int) := by omega
          obtain ⟨p', o', r, he, hp', hr, c0, c1, c2, c3, c4, c5⟩ := rowLs HR.out J (by rw [← HN.out]; exact hJn)
          simp only [Option.some.injEq, Addr.mk.injEq, and_true] at he
          obtain ⟨rfl, rfl⟩ := he
          have hprv : prvL ls k = some r.a := by rw [hkJ]; exact prvL_next hr
          have hrok : r.a.ok = true := HPr.out _ hprv
          have HPo2 : Hid (leasesF T N none ls = ((true && decide (r.a.key < q.a.key)) && leasesF T N (some q.a) (ls.drop (k + 1)))) := hidP (by rw [HPo.out, hprv]; rfl)
          have HFo := hidP ((cmp_ok r.a.s r.a.H r.a.L q.a.s q.a.H q.a.L hrok HOk.out).2)
          have hge : decide (0 ≤ cmpW (keyN r.a.s r.a.H r.a.L : Int) (keyN q.a.s q.a.H q.a.L : Int)) = !decide (r.a.key < q.a.key) := cmpW_ge _ _
          generalize cmpW (keyN r.a.s r.a.H r.a.L : Int) (keyN q.a.s q.a.H q.a.L : Int) = z at *
          have e0 := (HBel.out.cell hp').trans c0
          have e1 := (HBel.out.cell hp').trans c1
          have e2 := (HBel.out.cell hp').trans c2
          clear c0 c1 c2 c3 c4 c5 hr hprv hrok hJ hkJ hk0 HPo HPr
          cases hfo : decide (r.a.key < q.a.key)
          · rw [hfo] at HPo2 hge
            have hge' : decide (0 ≤ z) = true := hge
            have HF : Hid (leasesF T N none ls = false) := hidP (by rw [HPo2.out]; rfl)
            clear HPo2 hge hfo
            go_wp2_with fail
            obtain ⟨x0, x1, x2, x3, x4, x5⟩ := boxLs (q := q) wr 74
            have xB := alloc_below wr (.cells #[.bool q.a.s, .int .i64 q.a.H.toInt, .int .i64 q.a.L.toInt, .string q.t, .int .i64 q.k, .int .i64 q.u] 74)
            have xL := alloc_lt wr (.cells #[.bool q.a.s, .int .i64 q.a.H.toInt, .int .i64 q.a.L.toInt, .string q.t, .int .i64 q.k, .int .i64 q.u] 74)
            have xS : (wr.alloc (.cells #[.bool q.a.s, .int .i64 q.a.H.toInt, .int .i64 q.a.L.toInt, .string q.t, .int .i64 q.k, .int .i64 q.u] 74)).heap.size = wr.heap.size + 1 := by simp
            generalize wr.alloc (.cells #[.bool q.a.s, .int .i64 q.a.H.toInt, .int .i64 q.a.L.toInt, .string q.t, .int .i64 q.k, .int .i64 q.u] 74) = W2 at *
            have D0 := (xB.cell BL).trans B0
            have D1 := (xB.cell BL).trans B1
            have D2 := (xB.cell BL).trans B2
            have DL : w.heap.size < W2.heap.size := Nat.lt_of_lt_of_le BL xB.size
            have HXB := hidP xB
            clear xS
            have y0 := (xB.cell hpw).trans e0
            have y1 := (xB.cell hpw).trans e1
            have y2 := (xB.cell hpw).trans e2
            have yL : p < W2.heap.size := Nat.lt_of_lt_of_le hpw xB.size
            clear xB
            have HSx : Hid (∀ x, Below W2.heap.size W2 x → (x.cell? ⟨w.heap.size, 0, none⟩ = some (.slice (some ⟨p, o, none⟩) n c) ∧ x.cell? ⟨w.heap.size, 1, none⟩ = some (.int .i64 T) ∧ x.cell? ⟨w.heap.size, 2, none⟩ = some (.int .i64 N) ∧ x.cell? ⟨wr.heap.size, 0, none⟩ = some (.bool q.a.s) ∧ x.cell? ⟨wr.heap.size, 1, none⟩ = some (.int .i64 q.a.H.toInt) ∧ x.cell? ⟨wr.heap.size, 2, none⟩ = some (.int .i64 q.a.L.toInt) ∧ x.cell? ⟨wr.heap.size, 3, none⟩ = some (.string q.t) ∧ x.cell? ⟨wr.heap.size, 4, none⟩ = some (.int .i64 q.k) ∧ x.cell? ⟨wr.heap.size, 5, none⟩ = some (.int .i64 q.u) ∧ x.cell? ⟨p, o + J * 6, none⟩ = some (.bool r.a.s) ∧ x.cell? ⟨p, o + J * 6 + 1, none⟩ = some (.int .i64 r.a.H.toInt) ∧ x.cell? ⟨p, o + J * 6 + 2, none⟩ = some (.int .i64 r.a.L.toInt) ∧ Below W2.heap.size W2 x)) := hidP fun x h =>
              ⟨(h.cell DL).trans D0, (h.cell DL).trans D1, (h.cell DL).trans D2, (h.cell xL).trans x0, (h.cell xL).trans x1, (h.cell xL).trans x2, (h.cell xL).trans x3, (h.cell xL).trans x4, (h.cell xL).trans x5, (h.cell yL).trans y0, (h.cell yL).trans y1, (h.cell yL).trans y2, h⟩
            refine wp_region_held_drew (S := (fun x => x.cell? ⟨w.heap.size, 0, none⟩ = some (.slice (some ⟨p, o, none⟩) n c) ∧ x.cell? ⟨w.heap.size, 1, none⟩ = some (.int .i64 T) ∧ x.cell? ⟨w.heap.size, 2, none⟩ = some (.int .i64 N) ∧ x.cell? ⟨wr.heap.size, 0, none⟩ = some (.bool q.a.s) ∧ x.cell? ⟨wr.heap.size, 1, none⟩ = some (.int .i64 q.a.H.toInt) ∧ x.cell? ⟨wr.heap.size, 2, none⟩ = some (.int .i64 q.a.L.toInt) ∧ x.cell? ⟨wr.heap.size, 3, none⟩ = some (.string q.t) ∧ x.cell? ⟨wr.heap.size, 4, none⟩ = some (.int .i64 q.k) ∧ x.cell? ⟨wr.heap.size, 5, none⟩ = some (.int .i64 q.u) ∧ x.cell? ⟨p, o + J * 6, none⟩ = some (.bool r.a.s) ∧ x.cell? ⟨p, o + J * 6 + 1, none⟩ = some (.int .i64 r.a.H.toInt) ∧ x.cell? ⟨p, o + J * 6 + 2, none⟩ = some (.int .i64 r.a.L.toInt) ∧ Below W2.heap.size W2 x)) (by kernel_rfl) ?_ (fun hHeld => ?_)
            · try dsimp only
              exact HSx.out _ ((Below.refl _ _).drew)
            refine tk 0 13 rfl ?_; simp only [pa]
            refine tk 1 14 rfl ?_; simp only [pa]
            refine wpAnyH_ready (rs := [2]) (by kernel_rfl) (by simp) ?_
            refine AllReadyH.cons rfl (fun K hK => ?_) AllReadyH.nil
            go_simp
            go_wp2_with (first | (go_at_call 118; refine (HP1.out _).mono ?_; rintro e w2 ⟨rfl, hb2⟩; have b2 := (hHeld.2.2.2.2.2.2.2.2.2.2.2.2).trans (hb2.mono (hHeld.2.2.2.2.2.2.2.2.2.2.2.2).size)))
            refine hK.out _ _ ?_ (fun hHeld => ?_)
            · try dsimp only
              exact HSx.out _ b2
            clear hK K
            refine tk 3 16 rfl ?_; simp only [pa]
            refine tk 4 17 rfl ?_; simp only [pa]
            refine tk 5 18 rfl ?_; simp only [pa]
            refine tk 6 19 rfl ?_; simp only [pa]
            refine tk 7 20 rfl ?_; simp only [pa]
            refine tk 8 21 rfl ?_; simp only [pa]
            refine tk 9 22 rfl ?_; simp only [pa]
            refine tk 10 23 rfl ?_; simp only [pa]
            refine tk 11 24 rfl ?_; simp only [pa]
            refine tk 12 25 rfl ?_; simp only [pa]
            refine tk 13 26 rfl ?_; simp only [pa]
            refine tk 14 27 rfl ?_; simp only [pa]
            refine tk 15 28 rfl ?_; simp only [pa]
            refine tk 16 29 rfl ?_; simp only [pa]
            refine wpAnyH_ready (rs := [17]) (by kernel_rfl) (by simp) ?_
            refine AllReadyH.cons rfl (fun K hK => ?_) AllReadyH.nil
            go_simp
            go_wp2_with (first | (go_at_call 119; refine (HFo.out _).mono ?_; rintro e w3 ⟨rfl, hb3⟩; have b3 := (hHeld.2.2.2.2.2.2.2.2.2.2.2.2).trans (hb3.mono (hHeld.2.2.2.2.2.2.2.2.2.2.2.2).size)))
            refine hK.out _ _ ?_ (fun hHeld => ?_)
            · try dsimp only
              exact HSx.out _ b3
            clear hK K
            refine tk 18 31 rfl ?_; simp only [pa]
            refine tk 19 32 rfl ?_; simp only [pa]
            refine tk 20 33 rfl ?_; simp only [pa]
            have HE := hidP (hHeld.2.2.2.2.2.2.2.2.2.2.2.2)
            refine wpAnyH_done (by kernel_rfl) ?_ _
            clear hHeld
            go_wp2_with fail
            go_ret
            exact ⟨ret_b HF.out.symm, HU.out.trans ((below_box HBel.out HBel.out.size HXB.out HE.out).mono HU.out.size)⟩
          · rw [hfo] at HPo2 hge
            have hge' : decide (0 ≤ z) = false := hge
            have HF : Hid (leasesF T N none ls = leasesF T N (some q.a) (ls.drop (k + 1))) := hidP (by rw [HPo2.out]; rfl)
            clear HPo2 hge hfo
            go_wp2_with fail
            obtain ⟨x0, x1, x2, x3, x4, x5⟩ := boxLs (q := q) wr 74
            have xB := alloc_below wr (.cells #[.bool q.a.s, .int .i64 q.a.H.toInt, .int .i64 q.a.L.toInt, .string q.t, .int .i64 q.k, .int .i64 q.u] 74)
            have xL := alloc_lt wr (.cells #[.bool q.a.s, .int .i64 q.a.H.toInt, .int .i64 q.a.L.toInt, .string q.t, .int .i64 q.k, .int .i64 q.u] 74)
            have xS : (wr.alloc (.cells #[.bool q.a.s, .int .i64 q.a.H.toInt, .int .i64 q.a.L.toInt, .string q.t, .int .i64 q.k, .int .i64 q.u] 74)).heap.size = wr.heap.size + 1 := by simp
            generalize wr.alloc (.cells #[.bool q.a.s, .int .i64 q.a.H.toInt, .int .i64 q.a.L.toInt, .string q.t, .int .i64 q.k, .int .i64 q.u] 74) = W2 at *
            have D0 := (xB.cell BL).trans B0
            have D1 := (xB.cell BL).trans B1
            have D2 := (xB.cell BL).trans B2
            have DL : w.heap.size < W2.heap.size := Nat.lt_of_lt_of_le BL xB.size
            have HXB := hidP xB
            clear xS
            have y0 := (xB.cell hpw).trans e0
            have y1 := (xB.cell hpw).trans e1
            have y2 := (xB.cell hpw).trans e2
            have yL : p < W2.heap.size := Nat.lt_of_lt_of_le hpw xB.size
            clear xB
            have HSx : Hid (∀ x, Below W2.heap.size W2 x → (x.cell? ⟨w.heap.size, 0, none⟩ = some (.slice (some ⟨p, o, none⟩) n c) ∧ x.cell? ⟨w.heap.size, 1, none⟩ = some (.int .i64 T) ∧ x.cell? ⟨w.heap.size, 2, none⟩ = some (.int .i64 N) ∧ x.cell? ⟨wr.heap.size, 0, none⟩ = some (.bool q.a.s) ∧ x.cell? ⟨wr.heap.size, 1, none⟩ = some (.int .i64 q.a.H.toInt) ∧ x.cell? ⟨wr.heap.size, 2, none⟩ = some (.int .i64 q.a.L.toInt) ∧ x.cell? ⟨wr.heap.size, 3, none⟩ = some (.string q.t) ∧ x.cell? ⟨wr.heap.size, 4, none⟩ = some (.int .i64 q.k) ∧ x.cell? ⟨wr.heap.size, 5, none⟩ = some (.int .i64 q.u) ∧ x.cell? ⟨p, o + J * 6, none⟩ = some (.bool r.a.s) ∧ x.cell? ⟨p, o + J * 6 + 1, none⟩ = some (.int .i64 r.a.H.toInt) ∧ x.cell? ⟨p, o + J * 6 + 2, none⟩ = some (.int .i64 r.a.L.toInt) ∧ Below W2.heap.size W2 x)) := hidP fun x h =>
              ⟨(h.cell DL).trans D0, (h.cell DL).trans D1, (h.cell DL).trans D2, (h.cell xL).trans x0, (h.cell xL).trans x1, (h.cell xL).trans x2, (h.cell xL).trans x3, (h.cell xL).trans x4, (h.cell xL).trans x5, (h.cell yL).trans y0, (h.cell yL).trans y1, (h.cell yL).trans y2, h⟩
            refine wp_region_held_drew (S := (fun x => x.cell? ⟨w.heap.size, 0, none⟩ = some (.slice (some ⟨p, o, none⟩) n c) ∧ x.cell? ⟨w.heap.size, 1, none⟩ = some (.int .i64 T) ∧ x.cell? ⟨w.heap.size, 2, none⟩ = some (.int .i64 N) ∧ x.cell? ⟨wr.heap.size, 0, none⟩ = some (.bool q.a.s) ∧ x.cell? ⟨wr.heap.size, 1, none⟩ = some (.int .i64 q.a.H.toInt) ∧ x.cell? ⟨wr.heap.size, 2, none⟩ = some (.int .i64 q.a.L.toInt) ∧ x.cell? ⟨wr.heap.size, 3, none⟩ = some (.string q.t) ∧ x.cell? ⟨wr.heap.size, 4, none⟩ = some (.int .i64 q.k) ∧ x.cell? ⟨wr.heap.size, 5, none⟩ = some (.int .i64 q.u) ∧ x.cell? ⟨p, o + J * 6, none⟩ = some (.bool r.a.s) ∧ x.cell? ⟨p, o + J * 6 + 1, none⟩ = some (.int .i64 r.a.H.toInt) ∧ x.cell? ⟨p, o + J * 6 + 2, none⟩ = some (.int .i64 r.a.L.toInt) ∧ Below W2.heap.size W2 x)) (by kernel_rfl) ?_ (fun hHeld => ?_)
            · try dsimp only
              exact HSx.out _ ((Below.refl _ _).drew)
            refine tk 0 13 rfl ?_; simp only [pa]
            refine tk 1 14 rfl ?_; simp only [pa]
            refine wpAnyH_ready (rs := [2]) (by kernel_rfl) (by simp) ?_
            refine AllReadyH.cons rfl (fun K hK => ?_) AllReadyH.nil
            go_simp
            go_wp2_with (first | (go_at_call 118; refine (HP1.out _).mono ?_; rintro e w2 ⟨rfl, hb2⟩; have b2 := (hHeld.2.2.2.2.2.2.2.2.2.2.2.2).trans (hb2.mono (hHeld.2.2.2.2.2.2.2.2.2.2.2.2).size)))
            refine hK.out _ _ ?_ (fun hHeld => ?_)
            · try dsimp only
              exact HSx.out _ b2
            clear hK K
            refine tk 3 16 rfl ?_; simp only [pa]
            refine tk 4 17 rfl ?_; simp only [pa]
            refine tk 5 18 rfl ?_; simp only [pa]
            refine tk 6 19 rfl ?_; simp only [pa]
            refine tk 7 20 rfl ?_; simp only [pa]
            refine tk 8 21 rfl ?_; simp only [pa]
            refine tk 9 22 rfl ?_; simp only [pa]
            refine tk 10 23 rfl ?_; simp only [pa]
            refine tk 11 24 rfl ?_; simp only [pa]
            refine tk 12 25 rfl ?_; simp only [pa]
            refine tk 13 26 rfl ?_; simp only [pa]
            refine tk 14 27 rfl ?_; simp only [pa]
            refine tk 15 28 rfl ?_; simp only [pa]
            refine tk 16 29 rfl ?_; simp only [pa]
            refine wpAnyH_ready (rs := [17]) (by kernel_rfl) (by simp) ?_
            refine AllReadyH.cons rfl (fun K hK => ?_) AllReadyH.nil
            go_simp
            go_wp2_with (first | (go_at_call 119; refine (HFo.out _).mono ?_; rintro e w3 ⟨rfl, hb3⟩; have b3 := (hHeld.2.2.2.2.2.2.2.2.2.2.2.2).trans (hb3.mono (hHeld.2.2.2.2.2.2.2.2.2.2.2.2).size)))
            refine hK.out _ _ ?_ (fun hHeld => ?_)
            · try dsimp only
              exact HSx.out _ b3
            clear hK K
            refine tk 18 31 rfl ?_; simp only [pa]
            refine tk 19 32 rfl ?_; simp only [pa]
            refine tk 20 33 rfl ?_; simp only [pa]
            have HE := hidP (hHeld.2.2.2.2.2.2.2.2.2.2.2.2)
            refine wpAnyH_done (by kernel_rfl) ?_ _
            clear hHeld
            go_wp2_with fail
            go_roundw
            case rel => exact ⟨k + 1, by omega, by go_num, by rw [HF.out, HNx.out], (fun r h => by rw [HNx.out] at h; cases h; exact HOk.out), below_box HBel.out HBel.out.size HXB.out HE.out⟩
            case measure => simp [intOf]; omega
    · have HF : Hid (leasesF T N none ls = true) := by
        rw [List.drop_of_length_le (by have := HN.out; omega)] at hpo
        exact hidP hpo
      have HBel := hidP hbel
      clear hbel hpo hpr
      go_wp2_with fail
      go_ret
      exact ⟨ret_b HF.out.symm, HU.out.trans (HBel.out.mono HU.out.size)⟩

end Go.Proofs.YtngcbhbcocnbeaaGreat
namespace Go.Proofs.YtngcbhbcocnbeaaGreat
open Go.RowKit Go.Sort

def KI : Kd Int := ⟨1, fun x => [.int .i64 x], fun _ => rfl, fun x u h => by
  simp at h; subst h; rfl⟩
theorem Tryz.tyI : GTy KI (.int .i64 0) 8 Tryz.prog 61 3 := ⟨Tryz.underlying61, by kernel_rfl, rfl, by omega⟩
theorem rowI {w : World} {a : Option Addr} {ps : List Int} (h : RowG KI w a ps) (j : Nat) (hj : j < ps.length) : ∃ p o q, a = some ⟨p, o, none⟩ ∧ p < w.heap.size ∧ ps[j]? = some q ∧ w.cell? ⟨p, o + j, none⟩ = some (.int .i64 q) := by
  obtain ⟨p, o, q, ha, hp, hq, c⟩ := h j hj
  have := c 0 _ rfl
  rw [show KI.k = 1 from rfl, Nat.mul_one, Nat.add_zero] at this
  exact ⟨p, o, q, ha, hp, hq, this⟩
theorem rowI0 {w : World} {g n cap B : Nat} {t : TypeId} {ps : List Int} (h : OwnG KI t w B (.slice (some ⟨g, 0, none⟩) n cap) ps) (j : Nat) (hj : j < ps.length) : ∃ q, g < w.heap.size ∧ ps[j]? = some q ∧ w.cell? ⟨g, j, none⟩ = some (.int .i64 q) := by
  obtain ⟨p, o, q, ha, hp, hq, c0⟩ := rowI h.row j hj
  simp only [Option.some.injEq, Addr.mk.injEq, and_true] at ha
  obtain ⟨rfl, rfl⟩ := ha
  rw [Nat.zero_add] at c0
  exact ⟨q, hp, hq, c0⟩
theorem putI {t : TypeId} {w : World} {B g n cap : Nat} {ps : List Int} (h : OwnG KI t w B (.slice (some ⟨g, 0, none⟩) n cap) ps) (hn : n = ps.length) (j : Nat) (hj : j < n) (q : Int) :
    OwnG KI t (w.setCell ⟨g, j, none⟩ (.int .i64 q)) B (.slice (some ⟨g, 0, none⟩) n cap) (ps.set j q) := by
  have := h.put hn j hj q
  rw [show j * KI.k = j from Nat.mul_one j] at this
  exact this

theorem holdsI {w : World} {g n cap B : Nat} {t : TypeId} {ps : List Int} (h : OwnG KI t w B (.slice (some ⟨g, 0, none⟩) n cap) ps) : Holds (Value.int .i64) w g 0 ps.toArray := by
  intro j hj
  have hj' : j < ps.length := by simpa using hj
  obtain ⟨q, _, hq, c⟩ := rowI0 h j hj'
  refine ⟨?_, h.frozen _⟩
  rw [Nat.zero_add, c]
  congr 2
  rw [getElem!_pos ps.toArray j hj]
  rw [List.getElem?_eq_getElem hj'] at hq
  simpa using (Option.some.inj hq).symm
theorem below_sort {w w0 : World} {g B n : Nat} {os : Array Obj} {d : Array Int} (hb : Below B w0 w) (hB : B ≤ w.heap.size) (hg : B ≤ g) : Below B w0 (grow (putRow (Value.int .i64) (Sort.ahead w n) g 0 d) os) :=
  hb.grown (grownBy_sortedI d) hB (fun k hk => by cases hk; exact hg)
theorem below_put {w w0 : World} {g B n : Nat} {d : Array Int} (hb : Below B w0 w) (hB : B ≤ w.heap.size) (hg : B ≤ g) : Below B w0 (putRow (Value.int .i64) (Sort.ahead w n) g 0 d) := by
  have h := below_sort (n := n) (os := #[]) (d := d) hb hB hg
  rw [grow_empty] at h
  exact h
theorem holds_sorted {w : World} {g n : Nat} {os : Array Obj} {zs : List Int} (hg : g < w.heap.size) (h : Holds (Value.int .i64) w g 0 zs.toArray) : Holds (Value.int .i64) (grow (putRow (Value.int .i64) (Sort.ahead w n) g 0 (zs.mergeSort fun x y => decide (x ≤ y)).toArray) os) g 0 (zs.mergeSort fun x y => decide (x ≤ y)).toArray := by
  refine holds_grow _ _ _ _ _ _ (by simpa [putRow, mapBlock] using hg) ?_
  exact holds_putRow _ _ _ _ zs.toArray _ (holds_ahead _ _ _ _ _ _ h) (by simp)
theorem sortTok (g n c : Nat) (zs : List Int) (w : World) (hn : n = zs.length) (hH : Holds (Value.int .i64) w g 0 zs.toArray) (hg : g < w.heap.size) (hl : n ≤ 1048576) :
    Calls Tryz.prog 120 #[.slice (some ⟨g, 0, none⟩) n c] w fun e w' => e = .returned (.tuple #[]) ∧ Holds (Value.int .i64) w' g 0 (zs.mergeSort fun x y => decide (x ≤ y)).toArray ∧ g < w'.heap.size ∧ (∀ B w0, Below B w0 w → B ≤ w.heap.size → B ≤ g → Below B w0 w') := by
  subst hn
  refine (Tryz.slices_Sort_int g 0 c zs w hH hg (by omega)).mono ?_
  rintro e w' ⟨rfl, m, os, rfl⟩
  exact ⟨rfl, holds_sorted hg hH, by simp [grow, putRow, mapBlock]; omega, fun B w0 h1 h2 h3 => below_sort h1 h2 h3⟩
theorem compTok (g n c : Nat) (zs : List Int) (w : World) (hn : n = zs.length) (hH : Holds (Value.int .i64) w g 0 zs.toArray) (hl : n ≤ 1048576) (hc : n ≤ c) :
    Calls Tryz.prog 121 #[.slice (some ⟨g, 0, none⟩) n c] w fun e w' => e = .returned (.slice (some ⟨g, 0, none⟩) (Lib.compact zs).length c) ∧ (∀ B w0, Below B w0 w → B ≤ w.heap.size → B ≤ g → Below B w0 w') := by
  subst hn
  refine (Tryz.slices_Compact_int g 0 c zs w hH (by omega) hc).mono ?_
  rintro e w' ⟨rfl, m, rfl⟩
  exact ⟨rfl, fun B w0 h1 h2 h3 => below_put h1 h2 h3⟩

set_option maxRecDepth 10000 in
set_option maxHeartbeats 2000000 in
theorem tokensDiffer_any (a : Option Addr) (n c : Nat) (ls : List Ls) (w : World) (hn : n = ls.length) (hB : RowG KLs w a ls) (hl : n ≤ 1048576) :
    Calls Tryz.prog 97 #[.slice a n c] w fun e w' => e = .returned (.bool (tokB ls)) ∧ Below w.heap.size w w' := by
  obtain ⟨i0, hi, hz0, hz1, hz2⟩ := info_parts Tryz.tyI.2.1
  have HB := hidP hB
  have HN := hidP hn
  have HTk := hidP (tok_compact ls n hn)
  clear hB hn
  go_enter Tryz.func97, Tryz.ntmps97
  go_wp2_with (refine wpList_make_full _ rfl (.tmp 7) (.tmp 7) 61 rfl w.heap.size 3 i0 _ 1 Tryz.tyI.1 hi hz0 hz1 .i64 .i64 n n n rfl rfl rfl rfl (by rw [hz2]; omega) (by unfold maxLen; omega) (Nat.le_refl _) ?_; intro w1 hown hgrow)
  have HO : Hid (OwnG KI 3 w1 w.heap.size (.slice (some ⟨w.heap.size, 0, none⟩) n n) ((ls.map Ls.k).take 0 ++ List.replicate ((ls.map Ls.k).length - 0) 0)) := by
    have hm := made_gen KI 0 (by show 0 < 1; omega) (.int .i64 0) rfl n
    rw [show n * 1 = n * KI.k from rfl, hm] at hown
    refine hidP ?_
    unfold OwnG
    rw [Nat.sub_zero, List.take_zero, List.nil_append, List.length_replicate, List.length_map, ← HN.out]; exact hown
  have HW : Hid (Below w.heap.size w w1) := (Below.refl _ w).grown hgrow (Nat.le_refl _) (fun k hk => by cases hk)
  clear hown hgrow
  go_loopw [4, 5, 11] (fun _ _ t11 wr => ∃ k : Nat, k ≤ n ∧ t11 = .int .i64 k ∧ OwnG KI 3 wr w.heap.size (.slice (some ⟨w.heap.size, 0, none⟩) n n) ((ls.map Ls.k).take k ++ List.replicate ((ls.map Ls.k).length - k) 0) ∧ Below w.heap.size w wr) (fun _ _ t11 _ => n - (intOf t11).toNat)
  case atStart => exact ⟨0, Nat.zero_le _, rfl, HO.out, HW.out⟩
  case round =>
    obtain ⟨k, hk, rfl, hown, hbel⟩ := hrel
    by_cases hlt : k < n
    · obtain ⟨p, o, q, rfl, hp, hq, c0, c1, c2, c3, c4, c5⟩ := rowLs HB.out k (by rw [← HN.out]; exact hlt)
      have d0 := (hbel.cell hp).trans c0
      have d1 := (hbel.cell hp).trans c1
      have d2 := (hbel.cell hp).trans c2
      have d3 := (hbel.cell hp).trans c3
      have d4 := (hbel.cell hp).trans c4
      have d5 := (hbel.cell hp).trans c5
      have hq' : (ls.map Ls.k)[k]? = some q.k := by rw [List.getElem?_map, hq]; rfl
      have hlen : n = ((ls.map Ls.k).take k ++ List.replicate ((ls.map Ls.k).length - k) 0).length := by rw [List.length_append, List.length_take, List.length_replicate, List.length_map]; have := HN.out; omega
      have hfr := hown.frozen k
      obtain ⟨q0, hgl, _, cg⟩ := rowI0 hown k (by rw [← hlen]; exact hlt)
      have HOw := hidP hown
      have HBel := hidP hbel
      have HQ := hidP hq'
      have HL := hidP hlen
      clear hown hbel c0 c1 c2 c3 c4 c5 hq hq' HO HW hlen
      have hput := putI HOw.out HL.out k hlt q.k
      rw [copy_stepG 0 (ls.map Ls.k) k q.k (by rw [List.length_map, ← HN.out]; exact hlt) HQ.out] at hput
      have HP := hidP hput
      clear hput HOw
      go_wp2_with fail
      go_roundw
      case rel => exact ⟨k + 1, by omega, by go_num, HP.out.alloc _, (HBel.out.setCell (Nat.le_refl _) _).alloc (by simp; omega) _⟩
      case measure => simp [intOf]; omega
    · have hkn : k = n := by omega
      have HO2 : Hid (OwnG KI 3 wr w.heap.size (.slice (some ⟨w.heap.size, 0, none⟩) n n) (ls.map Ls.k)) := by
        have e := HN.out
        rw [hkn, List.take_of_length_le (by rw [List.length_map]; omega), List.length_map, ← e, Nat.sub_self, List.replicate_zero, List.append_nil] at hown
        exact hidP hown
      have HBel : Hid (Below w.heap.size w wr) := hbel
      have hgl : w.heap.size < wr.heap.size := (OwnG.lt HO2.out w.heap.size rfl).2
      clear hown hbel HO HW
      go_wp2_with fail
      refine (sortTok w.heap.size n n (ls.map Ls.k) wr (by rw [List.length_map]; exact HN.out) (holdsI HO2.out) hgl hl).mono ?_
      rintro e w2 ⟨rfl, hH2, hgl2, hb2⟩
      have B2 := hidP (hb2 _ _ HBel.out HBel.out.size (Nat.le_refl _))
      have H2 := hidP hH2
      clear hH2 hb2 HBel HO2
      go_wp2_with fail
      refine (compTok w.heap.size n n _ w2 (by rw [List.length_mergeSort, List.length_map]; exact HN.out) H2.out hl (Nat.le_refl _)).mono ?_
      rintro e w3 ⟨rfl, hb3⟩
      have B3 := hidP (hb3 _ _ B2.out B2.out.size (Nat.le_refl _))
      clear hb3
      go_wp2_with fail
      go_ret
      exact ⟨ret_b HTk.out, B3.out⟩

set_option maxRecDepth 10000 in
set_option maxHeartbeats 4000000 in
/-- The program's BookOk. -/
theorem iBookOk_any (a : Option Addr) (n c : Nat) (T N : Int) (ls : List Ls) (w : World) (hn : n = ls.length) (hB : RowG KLs w a ls) (hl : n ≤ 1048576) (hst : ∀ q ∈ ls, q.t.size ≤ 9223372036854775807) :
    Calls Tryz.prog 63 #[.agg #[.slice a n c, .int .i64 T, .int .i64 N]] w fun e w' => e = .returned (.bool (bkB ls T N)) ∧ Below w.heap.size w w' := by
  have HL := hidP (fun W h => leasesOk_any a n c T N ls W hn (hB.later h) (by omega) hst)
  have HT := hidP (fun W h => tokensDiffer_any a n c ls W hn (hB.later h) hl)
  have hv : bkB ls T N = ((decide ((n : Int) ≤ 80) && ((decide (0 ≤ T) && decide (T ≤ 1000000000)) && (decide (0 ≤ N) && decide (N ≤ 1000000000)))) && (leasesF T N none ls && tokB ls)) := by
    unfold bkB
    rw [← hn]
    congr 2
    by_cases h : n ≤ 80
    · rw [decide_eq_true h, decide_eq_true (by omega)]
    · rw [decide_eq_false h, decide_eq_false (by omega)]
  rw [hv]
  clear hv hB hn hst
  generalize leasesF T N none ls = F at *
  generalize tokB ls = K at *
  cases h0 : decide ((n : Int) ≤ 80)
  · have h0' : decide (n ≤ 80) = false := decide_eq_false (by have := of_decide_eq_false h0; omega)
    cases h1 : decide (0 ≤ T) <;> cases h3 : decide (0 ≤ N)
    all_goals
      go_enter Tryz.func63, Tryz.ntmps63
      go_wp2_with fail
      go_ret
      exact ⟨rfl, alloc_below w _⟩
  · have h0' : decide (n ≤ 80) = true := decide_eq_true (by have := of_decide_eq_true h0; omega)
    cases h1 : decide (0 ≤ T) <;> cases h2 : decide (T ≤ 1000000000) <;> cases h3 : decide (0 ≤ N) <;> cases h4 : decide (N ≤ 1000000000)
    all_goals try
      (go_enter Tryz.func63, Tryz.ntmps63
       go_wp2_with fail
       go_ret
       exact ⟨rfl, alloc_below w _⟩)
    cases F
    · go_enter Tryz.func63, Tryz.ntmps63
      go_wp2_with fail
      refine (HL.out _ (alloc_below w _)).mono ?_
      rintro e w2 ⟨rfl, hb2⟩
      have HB2 := hidP hb2
      clear hb2
      go_wp2_with fail
      go_ret
      exact ⟨rfl, (alloc_below w _).trans (HB2.out.mono (by simp))⟩
    · go_enter Tryz.func63, Tryz.ntmps63
      go_wp2_with fail
      refine (HL.out _ (alloc_below w _)).mono ?_
      rintro e w2 ⟨rfl, hb2⟩
      have hc : w2.cell? ⟨w.heap.size, 0, none⟩ = some (.slice a n c) := (hb2.cell (by simp)).trans (by simp [go_sem])
      have HB2 := hidP ((alloc_below w _).trans (hb2.mono (by simp)))
      clear hb2
      go_wp2_with fail
      refine (HT.out _ HB2.out).mono ?_
      rintro e w3 ⟨rfl, hb3⟩
      have HB3 := hidP (HB2.out.trans (hb3.mono HB2.out.size))
      clear hb3
      go_wp2_with fail
      go_ret
      exact ⟨rfl, HB3.out⟩

end Go.Proofs.YtngcbhbcocnbeaaGreat
namespace Go.Proofs.YtngcbhbcocnbeaaGreat
open Go.RowKit

set_option maxHeartbeats 1000000 in
theorem timeOk_any (u : Int) (w : World) :
    Calls Tryz.prog 141 #[.int .i64 u] w fun e w' => e = .returned (.bool (tmB u)) ∧ w' = w := by
  unfold tmB
  cases h1 : decide (0 ≤ u)
  · go_enter Tryz.func141, Tryz.ntmps141
    go_wp2
    go_ret
    exact ⟨rfl, rfl⟩
  · go_enter Tryz.func141, Tryz.ntmps141
    go_wp2
    go_ret
    exact ⟨rfl, rfl⟩
set_option maxHeartbeats 1000000 in
theorem l1In7_any (a b c : Int) (w : World) :
    Calls Tryz.prog 87 #[.int .i64 a, .int .i64 b, .int .i64 c] w fun e w' => e = .returned (.bool (decide (b ≤ a) && decide (a ≤ c))) ∧ w' = w := by
  cases h1 : decide (b ≤ a)
  · go_enter Tryz.func87, Tryz.ntmps87
    go_wp2
    go_ret
    exact ⟨rfl, rfl⟩
  · go_enter Tryz.func87, Tryz.ntmps87
    go_wp2
    go_ret
    exact ⟨rfl, rfl⟩
set_option maxRecDepth 10000 in
set_option maxHeartbeats 4000000 in
theorem sesOk_any (p o : Nat) (q : Ss) (w : World) (c1 : w.cell? ⟨p, o + 1, none⟩ = some (.int .i64 q.l)) (c2 : w.cell? ⟨p, o + 2, none⟩ = some (.string q.t)) (c3 : w.cell? ⟨p, o + 3, none⟩ = some (.int .i64 q.u)) :
    Calls Tryz.prog 122 #[.pointer (some ⟨p, o, none⟩)] w fun e w' => e = .returned (.bool (okSs q)) ∧ w' = w := by
  have HT := hidP (timeOk_any q.u)
  unfold okSs emB

  generalize tmB q.u = T at *
  cases h1 : decide (0 ≤ q.l) <;> cases h3 : decide ((q.t.size : Int) ≤ 200) <;> cases h4 : decide (0 < q.l) <;> cases h5 : q.t.toList.isEmpty
  all_goals
    cases h2 : decide (q.l ≤ 1000000)
    all_goals
      go_enter Tryz.func122, Tryz.ntmps122
      go_wp2_with fail
      first
      | (go_ret; exact ⟨rfl, rfl⟩)
      | (refine (HT.out _).mono ?_; rintro e w2 ⟨rfl, rfl⟩; go_wp2_with fail; go_ret; exact ⟨rfl, rfl⟩)

end Go.Proofs.YtngcbhbcocnbeaaGreat
namespace Go.Proofs.YtngcbhbcocnbeaaGreat
open Go.RowKit

theorem boxSs {q : Ss} (w : World) (t : TypeId) : (w.alloc (.cells #[.int .i64 q.i, .int .i64 q.l, .string q.t, .int .i64 q.u] t)).cell? ⟨w.heap.size, 0, none⟩ = some (.int .i64 q.i) ∧ (w.alloc (.cells #[.int .i64 q.i, .int .i64 q.l, .string q.t, .int .i64 q.u] t)).cell? ⟨w.heap.size, 1, none⟩ = some (.int .i64 q.l) ∧ (w.alloc (.cells #[.int .i64 q.i, .int .i64 q.l, .string q.t, .int .i64 q.u] t)).cell? ⟨w.heap.size, 2, none⟩ = some (.string q.t) ∧ (w.alloc (.cells #[.int .i64 q.i, .int .i64 q.l, .string q.t, .int .i64 q.u] t)).cell? ⟨w.heap.size, 3, none⟩ = some (.int .i64 q.u) := by
  have h := own_oneG KSs w 0 t q (Nat.zero_le _)
  exact ⟨World.ownsRow.cellAt h 0 (by show 0 < 1 * 4; omega), World.ownsRow.cellAt h 1 (by show 1 < 1 * 4; omega), World.ownsRow.cellAt h 2 (by show 2 < 1 * 4; omega), World.ownsRow.cellAt h 3 (by show 3 < 1 * 4; omega)⟩
theorem below_box7 {B : Nat} {w wr W x : World} (h1 : Below B w wr) (hB : B ≤ wr.heap.size) (h2 : Below wr.heap.size wr W) (h3 : Below W.heap.size W x) : Below B w x :=
  (h1.trans (h2.mono hB)).trans (h3.mono (Nat.le_trans hB h2.size))
set_option maxRecDepth 10000 in
set_option maxHeartbeats 2000000 in
theorem sessionsOk_any (b : Nat) (a : Option Addr) (n c : Nat) (N : Int) (ls : List Ss) (w : World) (hn : n = ls.length) (hB : RowG KSs w a ls) (hl : n ≤ 9000000000) (bL : b < w.heap.size) (b0 : w.cell? ⟨b, 0, none⟩ = some (.slice a n c)) (b1 : w.cell? ⟨b, 1, none⟩ = some (.int .i64 N)) :
    Calls Tryz.prog 98 #[.pointer (some ⟨b, 0, none⟩)] w fun e w' => e = .returned (.bool (sesF N 0 ls)) ∧ Below w.heap.size w w' := by
  have HR := hidP hB
  have HN := hidP hn
  clear hB hn
  go_enter Tryz.func98, Tryz.ntmps98
  go_wp2_with fail
  go_loopw [3, 5, 11] (fun t3 _ t11 wr => ∃ k : Nat, k ≤ n ∧ t11 = .int .i64 k ∧ t3 = .int .i64 (prvS ls k) ∧ sesF N 0 ls = sesF N (prvS ls k) (ls.drop k) ∧ Below w.heap.size w wr) (fun _ _ t11 _ => n - (intOf t11).toNat)
  case atStart => exact ⟨0, Nat.zero_le _, rfl, rfl, rfl, Below.refl _ _⟩
  case round =>
    obtain ⟨k, hk, rfl, rfl, hpo, hbel⟩ := hrel
    have B0 := (hbel.cell bL).trans b0
    have B1 := (hbel.cell bL).trans b1
    have BL : b < wr.heap.size := Nat.lt_of_lt_of_le bL hbel.size
    by_cases hlt : k < n
    · obtain ⟨p, o, q, rfl, hp, hq, c0, c1, c2, c3⟩ := rowSs HR.out k (by rw [← HN.out]; exact hlt)
      have d0 := (hbel.cell hp).trans c0
      have d1 := (hbel.cell hp).trans c1
      have d2 := (hbel.cell hp).trans c2
      have d3 := (hbel.cell hp).trans c3
      rw [drop_at7 hq] at hpo
      have hpo' : sesF N 0 ls = (((decide (prvS ls k < q.i) && decide (q.i < N)) && okSs q) && sesF N q.i (ls.drop (k + 1))) := hpo
      have HNx := hidP (prvS_next hq)
      have HPo := hidP hpo'
      have HBel := hidP hbel
      clear c0 c1 c2 c3 hq hpo hpo' hbel b0 b1
      generalize prvS ls k = L at *
      cases g1 : decide (q.i ≤ L)
      · have g1' : decide (L < q.i) = true := decide_eq_true (by have := of_decide_eq_false g1; omega)
        rw [g1'] at HPo
        cases g2 : decide (N ≤ q.i)
        · have g2' : decide (q.i < N) = true := decide_eq_true (by have := of_decide_eq_false g2; omega)
          rw [g2'] at HPo
          have HOK := hidP (fun p w c1 c2 c3 => sesOk_any p 0 q w c1 c2 c3)
          clear g1' g2'
          cases hok : okSs q
          · rw [hok] at HOK HPo
            have HF : Hid (sesF N 0 ls = false) := hidP (by rw [HPo.out]; rfl)
            clear HPo
            go_wp2_with fail
            obtain ⟨x0, x1, x2, x3⟩ := boxSs (q := q) wr 77
            have xB := alloc_below wr (.cells #[.int .i64 q.i, .int .i64 q.l, .string q.t, .int .i64 q.u] 77)
            have xL := alloc_lt wr (.cells #[.int .i64 q.i, .int .i64 q.l, .string q.t, .int .i64 q.u] 77)
            have xS : (wr.alloc (.cells #[.int .i64 q.i, .int .i64 q.l, .string q.t, .int .i64 q.u] 77)).heap.size = wr.heap.size + 1 := by simp
            generalize wr.alloc (.cells #[.int .i64 q.i, .int .i64 q.l, .string q.t, .int .i64 q.u] 77) = W2 at *
            have D0 := (xB.cell BL).trans B0
            have D1 := (xB.cell BL).trans B1
            have DL : b < W2.heap.size := Nat.lt_of_lt_of_le BL xB.size
            have HXB := hidP xB
            clear xS xB
            have HSx : Hid (∀ x, Below W2.heap.size W2 x → (x.cell? ⟨b, 0, none⟩ = some (.slice (some ⟨p, o, none⟩) n c) ∧ x.cell? ⟨b, 1, none⟩ = some (.int .i64 N) ∧ x.cell? ⟨wr.heap.size, 0, none⟩ = some (.int .i64 q.i) ∧ x.cell? ⟨wr.heap.size, 1, none⟩ = some (.int .i64 q.l) ∧ x.cell? ⟨wr.heap.size, 2, none⟩ = some (.string q.t) ∧ x.cell? ⟨wr.heap.size, 3, none⟩ = some (.int .i64 q.u) ∧ Below W2.heap.size W2 x)) := hidP fun x h =>
              ⟨(h.cell DL).trans D0, (h.cell DL).trans D1, (h.cell xL).trans x0, (h.cell xL).trans x1, (h.cell xL).trans x2, (h.cell xL).trans x3, h⟩
            refine wp_region_held_drew (S := (fun x => x.cell? ⟨b, 0, none⟩ = some (.slice (some ⟨p, o, none⟩) n c) ∧ x.cell? ⟨b, 1, none⟩ = some (.int .i64 N) ∧ x.cell? ⟨wr.heap.size, 0, none⟩ = some (.int .i64 q.i) ∧ x.cell? ⟨wr.heap.size, 1, none⟩ = some (.int .i64 q.l) ∧ x.cell? ⟨wr.heap.size, 2, none⟩ = some (.string q.t) ∧ x.cell? ⟨wr.heap.size, 3, none⟩ = some (.int .i64 q.u) ∧ Below W2.heap.size W2 x)) (by kernel_rfl) ?_ (fun hHeld => ?_)
            · try dsimp only
              exact HSx.out _ ((Below.refl _ _).drew)
            refine tk 0 15 rfl ?_; simp only [pa]
            refine tk 1 16 rfl ?_; simp only [pa]
            refine tk 2 17 rfl ?_; simp only [pa]
            refine tk 3 18 rfl ?_; simp only [pa]
            refine tk 4 19 rfl ?_; simp only [pa]
            refine tk 5 20 rfl ?_; simp only [pa]
            refine tk 6 21 rfl ?_; simp only [pa]
            refine tk 7 22 rfl ?_; simp only [pa]
            refine tk 8 23 rfl ?_; simp only [pa]
            refine tk 9 24 rfl ?_; simp only [pa]
            refine tk 10 25 rfl ?_; simp only [pa]
            refine tk 11 26 rfl ?_; simp only [pa]
            refine tk 12 27 rfl ?_; simp only [pa]
            refine tk 13 28 rfl ?_; simp only [pa]
            refine wpAnyH_ready (rs := [14]) (by kernel_rfl) (by simp) ?_
            refine AllReadyH.cons rfl (fun K hK => ?_) AllReadyH.nil
            go_simp
            go_wp2_with (first | (go_at_call 122; refine (HOK.out _ _ hHeld.2.2.2.1 hHeld.2.2.2.2.1 hHeld.2.2.2.2.2.1).mono ?_; rintro e w' ⟨rfl, rfl⟩))
            refine hK.out _ _ ?_ (fun hHeld => ?_)
            · try dsimp only
              exact HSx.out _ (hHeld.2.2.2.2.2.2)
            clear hK K
            refine tk 15 30 rfl ?_; simp only [pa]
            refine tk 16 31 rfl ?_; simp only [pa]
            have HE := hidP (hHeld.2.2.2.2.2.2)
            refine wpAnyH_done (by kernel_rfl) ?_ _
            clear hHeld
            go_wp2_with fail
            go_ret
            exact ⟨ret_b7 HF.out.symm, below_box7 HBel.out HBel.out.size HXB.out HE.out⟩
          · rw [hok] at HOK HPo
            have HF : Hid (sesF N 0 ls = sesF N q.i (ls.drop (k + 1))) := hidP (by rw [HPo.out]; rfl)
            clear HPo
            go_wp2_with fail
            obtain ⟨x0, x1, x2, x3⟩ := boxSs (q := q) wr 77
            have xB := alloc_below wr (.cells #[.int .i64 q.i, .int .i64 q.l, .string q.t, .int .i64 q.u] 77)
            have xL := alloc_lt wr (.cells #[.int .i64 q.i, .int .i64 q.l, .string q.t, .int .i64 q.u] 77)
            have xS : (wr.alloc (.cells #[.int .i64 q.i, .int .i64 q.l, .string q.t, .int .i64 q.u] 77)).heap.size = wr.heap.size + 1 := by simp
            generalize wr.alloc (.cells #[.int .i64 q.i, .int .i64 q.l, .string q.t, .int .i64 q.u] 77) = W2 at *
            have D0 := (xB.cell BL).trans B0
            have D1 := (xB.cell BL).trans B1
            have DL : b < W2.heap.size := Nat.lt_of_lt_of_le BL xB.size
            have HXB := hidP xB
            clear xS xB
            have HSx : Hid (∀ x, Below W2.heap.size W2 x → (x.cell? ⟨b, 0, none⟩ = some (.slice (some ⟨p, o, none⟩) n c) ∧ x.cell? ⟨b, 1, none⟩ = some (.int .i64 N) ∧ x.cell? ⟨wr.heap.size, 0, none⟩ = some (.int .i64 q.i) ∧ x.cell? ⟨wr.heap.size, 1, none⟩ = some (.int .i64 q.l) ∧ x.cell? ⟨wr.heap.size, 2, none⟩ = some (.string q.t) ∧ x.cell? ⟨wr.heap.size, 3, none⟩ = some (.int .i64 q.u) ∧ Below W2.heap.size W2 x)) := hidP fun x h =>
              ⟨(h.cell DL).trans D0, (h.cell DL).trans D1, (h.cell xL).trans x0, (h.cell xL).trans x1, (h.cell xL).trans x2, (h.cell xL).trans x3, h⟩
            refine wp_region_held_drew (S := (fun x => x.cell? ⟨b, 0, none⟩ = some (.slice (some ⟨p, o, none⟩) n c) ∧ x.cell? ⟨b, 1, none⟩ = some (.int .i64 N) ∧ x.cell? ⟨wr.heap.size, 0, none⟩ = some (.int .i64 q.i) ∧ x.cell? ⟨wr.heap.size, 1, none⟩ = some (.int .i64 q.l) ∧ x.cell? ⟨wr.heap.size, 2, none⟩ = some (.string q.t) ∧ x.cell? ⟨wr.heap.size, 3, none⟩ = some (.int .i64 q.u) ∧ Below W2.heap.size W2 x)) (by kernel_rfl) ?_ (fun hHeld => ?_)
            · try dsimp only
              exact HSx.out _ ((Below.refl _ _).drew)
            refine tk 0 15 rfl ?_; simp only [pa]
            refine tk 1 16 rfl ?_; simp only [pa]
            refine tk 2 17 rfl ?_; simp only [pa]
            refine tk 3 18 rfl ?_; simp only [pa]
            refine tk 4 19 rfl ?_; simp only [pa]
            refine tk 5 20 rfl ?_; simp only [pa]
            refine tk 6 21 rfl ?_; simp only [pa]
            refine tk 7 22 rfl ?_; simp only [pa]
            refine tk 8 23 rfl ?_; simp only [pa]
            refine tk 9 24 rfl ?_; simp only [pa]
            refine tk 10 25 rfl ?_; simp only [pa]
            refine tk 11 26 rfl ?_; simp only [pa]
            refine tk 12 27 rfl ?_; simp only [pa]
            refine tk 13 28 rfl ?_; simp only [pa]
            refine wpAnyH_ready (rs := [14]) (by kernel_rfl) (by simp) ?_
            refine AllReadyH.cons rfl (fun K hK => ?_) AllReadyH.nil
            go_simp
            go_wp2_with (first | (go_at_call 122; refine (HOK.out _ _ hHeld.2.2.2.1 hHeld.2.2.2.2.1 hHeld.2.2.2.2.2.1).mono ?_; rintro e w' ⟨rfl, rfl⟩))
            refine hK.out _ _ ?_ (fun hHeld => ?_)
            · try dsimp only
              exact HSx.out _ (hHeld.2.2.2.2.2.2)
            clear hK K
            refine tk 15 30 rfl ?_; simp only [pa]
            refine tk 16 31 rfl ?_; simp only [pa]
            have HE := hidP (hHeld.2.2.2.2.2.2)
            refine wpAnyH_done (by kernel_rfl) ?_ _
            clear hHeld
            go_wp2_with fail
            have v0 := (HE.out.cell xL).trans x0
            go_wp2_with fail
            go_roundw
            case rel => exact ⟨k + 1, by omega, by go_num, by rw [HNx.out], by rw [HF.out, HNx.out], below_box7 HBel.out HBel.out.size HXB.out HE.out⟩
            case measure => simp [intOf]; omega
        · have g2' : decide (q.i < N) = false := decide_eq_false (by have := of_decide_eq_true g2; omega)
          have HF : Hid (sesF N 0 ls = false) := hidP (by rw [HPo.out, g2']; rfl)
          clear HPo g1' g2'
          go_wp2_with fail
          obtain ⟨x0, x1, x2, x3⟩ := boxSs (q := q) wr 77
          have xB := alloc_below wr (.cells #[.int .i64 q.i, .int .i64 q.l, .string q.t, .int .i64 q.u] 77)
          have xL := alloc_lt wr (.cells #[.int .i64 q.i, .int .i64 q.l, .string q.t, .int .i64 q.u] 77)
          have xS : (wr.alloc (.cells #[.int .i64 q.i, .int .i64 q.l, .string q.t, .int .i64 q.u] 77)).heap.size = wr.heap.size + 1 := by simp
          generalize wr.alloc (.cells #[.int .i64 q.i, .int .i64 q.l, .string q.t, .int .i64 q.u] 77) = W2 at *
          have D0 := (xB.cell BL).trans B0
          have D1 := (xB.cell BL).trans B1
          have DL : b < W2.heap.size := Nat.lt_of_lt_of_le BL xB.size
          have HXB := hidP xB
          clear xS xB
          have HSx : Hid (∀ x, Below W2.heap.size W2 x → (x.cell? ⟨b, 0, none⟩ = some (.slice (some ⟨p, o, none⟩) n c) ∧ x.cell? ⟨b, 1, none⟩ = some (.int .i64 N) ∧ x.cell? ⟨wr.heap.size, 0, none⟩ = some (.int .i64 q.i) ∧ x.cell? ⟨wr.heap.size, 1, none⟩ = some (.int .i64 q.l) ∧ x.cell? ⟨wr.heap.size, 2, none⟩ = some (.string q.t) ∧ x.cell? ⟨wr.heap.size, 3, none⟩ = some (.int .i64 q.u) ∧ Below W2.heap.size W2 x)) := hidP fun x h =>
            ⟨(h.cell DL).trans D0, (h.cell DL).trans D1, (h.cell xL).trans x0, (h.cell xL).trans x1, (h.cell xL).trans x2, (h.cell xL).trans x3, h⟩
          refine wp_region_held_drew (S := (fun x => x.cell? ⟨b, 0, none⟩ = some (.slice (some ⟨p, o, none⟩) n c) ∧ x.cell? ⟨b, 1, none⟩ = some (.int .i64 N) ∧ x.cell? ⟨wr.heap.size, 0, none⟩ = some (.int .i64 q.i) ∧ x.cell? ⟨wr.heap.size, 1, none⟩ = some (.int .i64 q.l) ∧ x.cell? ⟨wr.heap.size, 2, none⟩ = some (.string q.t) ∧ x.cell? ⟨wr.heap.size, 3, none⟩ = some (.int .i64 q.u) ∧ Below W2.heap.size W2 x)) (by kernel_rfl) ?_ (fun hHeld => ?_)
          · try dsimp only
            exact HSx.out _ ((Below.refl _ _).drew)
          refine tk 0 15 rfl ?_; simp only [pa]
          refine tk 1 16 rfl ?_; simp only [pa]
          refine tk 2 17 rfl ?_; simp only [pa]
          refine tk 3 18 rfl ?_; simp only [pa]
          refine tk 4 19 rfl ?_; simp only [pa]
          refine tk 5 20 rfl ?_; simp only [pa]
          refine tk 6 21 rfl ?_; simp only [pa]
          refine tk 7 22 rfl ?_; simp only [pa]
          refine tk 8 23 rfl ?_; simp only [pa]
          refine tk 9 24 rfl ?_; simp only [pa]
          refine tk 10 25 rfl ?_; simp only [pa]
          refine tk 11 26 rfl ?_; simp only [pa]
          refine tk 12 27 rfl ?_; simp only [pa]
          refine tk 13 28 rfl ?_; simp only [pa]
          refine sk 14 29 rfl ?_; simp only [pa]
          refine sk 15 30 rfl ?_; simp only [pa]
          refine tk 16 31 rfl ?_; simp only [pa]
          have HE := hidP (hHeld.2.2.2.2.2.2)
          refine wpAnyH_done (by kernel_rfl) ?_ _
          clear hHeld
          go_wp2_with fail
          go_ret
          exact ⟨ret_b7 HF.out.symm, below_box7 HBel.out HBel.out.size HXB.out HE.out⟩
      · have g1' : decide (L < q.i) = false := decide_eq_false (by have := of_decide_eq_true g1; omega)
        have HF : Hid (sesF N 0 ls = false) := hidP (by rw [HPo.out, g1']; rfl)
        clear HPo g1'
        go_wp2_with fail
        obtain ⟨x0, x1, x2, x3⟩ := boxSs (q := q) wr 77
        have xB := alloc_below wr (.cells #[.int .i64 q.i, .int .i64 q.l, .string q.t, .int .i64 q.u] 77)
        have xL := alloc_lt wr (.cells #[.int .i64 q.i, .int .i64 q.l, .string q.t, .int .i64 q.u] 77)
        have xS : (wr.alloc (.cells #[.int .i64 q.i, .int .i64 q.l, .string q.t, .int .i64 q.u] 77)).heap.size = wr.heap.size + 1 := by simp
        generalize wr.alloc (.cells #[.int .i64 q.i, .int .i64 q.l, .string q.t, .int .i64 q.u] 77) = W2 at *
        have D0 := (xB.cell BL).trans B0
        have D1 := (xB.cell BL).trans B1
        have DL : b < W2.heap.size := Nat.lt_of_lt_of_le BL xB.size
        have HXB := hidP xB
        clear xS xB
        have HSx : Hid (∀ x, Below W2.heap.size W2 x → (x.cell? ⟨b, 0, none⟩ = some (.slice (some ⟨p, o, none⟩) n c) ∧ x.cell? ⟨b, 1, none⟩ = some (.int .i64 N) ∧ x.cell? ⟨wr.heap.size, 0, none⟩ = some (.int .i64 q.i) ∧ x.cell? ⟨wr.heap.size, 1, none⟩ = some (.int .i64 q.l) ∧ x.cell? ⟨wr.heap.size, 2, none⟩ = some (.string q.t) ∧ x.cell? ⟨wr.heap.size, 3, none⟩ = some (.int .i64 q.u) ∧ Below W2.heap.size W2 x)) := hidP fun x h =>
          ⟨(h.cell DL).trans D0, (h.cell DL).trans D1, (h.cell xL).trans x0, (h.cell xL).trans x1, (h.cell xL).trans x2, (h.cell xL).trans x3, h⟩
        refine wp_region_held_drew (S := (fun x => x.cell? ⟨b, 0, none⟩ = some (.slice (some ⟨p, o, none⟩) n c) ∧ x.cell? ⟨b, 1, none⟩ = some (.int .i64 N) ∧ x.cell? ⟨wr.heap.size, 0, none⟩ = some (.int .i64 q.i) ∧ x.cell? ⟨wr.heap.size, 1, none⟩ = some (.int .i64 q.l) ∧ x.cell? ⟨wr.heap.size, 2, none⟩ = some (.string q.t) ∧ x.cell? ⟨wr.heap.size, 3, none⟩ = some (.int .i64 q.u) ∧ Below W2.heap.size W2 x)) (by kernel_rfl) ?_ (fun hHeld => ?_)
        · try dsimp only
          exact HSx.out _ ((Below.refl _ _).drew)
        refine tk 0 15 rfl ?_; simp only [pa]
        refine tk 1 16 rfl ?_; simp only [pa]
        refine tk 2 17 rfl ?_; simp only [pa]
        refine tk 3 18 rfl ?_; simp only [pa]
        refine tk 4 19 rfl ?_; simp only [pa]
        refine sk 5 20 rfl ?_; simp only [pa]
        refine sk 6 21 rfl ?_; simp only [pa]
        refine sk 7 22 rfl ?_; simp only [pa]
        refine sk 8 23 rfl ?_; simp only [pa]
        refine sk 9 24 rfl ?_; simp only [pa]
        refine sk 10 25 rfl ?_; simp only [pa]
        refine sk 11 26 rfl ?_; simp only [pa]
        refine tk 12 27 rfl ?_; simp only [pa]
        refine tk 13 28 rfl ?_; simp only [pa]
        refine sk 14 29 rfl ?_; simp only [pa]
        refine sk 15 30 rfl ?_; simp only [pa]
        refine tk 16 31 rfl ?_; simp only [pa]
        have HE := hidP (hHeld.2.2.2.2.2.2)
        refine wpAnyH_done (by kernel_rfl) ?_ _
        clear hHeld
        go_wp2_with fail
        go_ret
        exact ⟨ret_b7 HF.out.symm, below_box7 HBel.out HBel.out.size HXB.out HE.out⟩
    · have HF : Hid (sesF N 0 ls = true) := by
        rw [List.drop_of_length_le (by have := HN.out; omega)] at hpo
        exact hidP hpo
      have HBel := hidP hbel
      clear hbel hpo
      go_wp2_with fail
      go_ret
      exact ⟨ret_b7 HF.out.symm, HBel.out⟩

set_option maxRecDepth 10000 in
set_option maxHeartbeats 2000000 in
theorem iDeskOk_any (a : Option Addr) (n c : Nat) (N : Int) (ls : List Ss) (w : World) (hn : n = ls.length) (hB : RowG KSs w a ls) (hl : n ≤ 1048576) :
    Calls Tryz.prog 64 #[.agg #[.slice a n c, .int .i64 N]] w fun e w' => e = .returned (.bool (dkB ls N)) ∧ Below w.heap.size w w' := by
  have HS := hidP (fun W h => sessionsOk_any w.heap.size a n c N ls W hn (hB.later h) (by omega))
  unfold dkB
  rw [← hn]
  clear hB hn
  generalize sesF N 0 ls = F at *
  cases h0 : decide ((n : Int) ≤ 12) <;> cases h1 : decide (1 ≤ N) <;> cases h2 : decide (N ≤ 1000000)
  all_goals
    go_enter Tryz.func64, Tryz.ntmps64
    go_wp2_with fail
    first
    | (go_ret; exact ⟨rfl, alloc_below w _⟩)
    | (refine (HS.out _ (alloc_below w _) (alloc_lt w _) (by simp [go_sem]) (by simp [go_sem])).mono ?_; rintro e w2 ⟨rfl, hb2⟩; have HB2 := hidP hb2; clear hb2; go_wp2_with fail; go_ret; exact ⟨rfl, (alloc_below w _).trans (HB2.out.mono (alloc_below w _).size)⟩)

end Go.Proofs.YtngcbhbcocnbeaaGreat
namespace Go.Proofs.YtngcbhbcocnbeaaGreat
open Go.RowKit

set_option maxRecDepth 10000 in
set_option maxHeartbeats 4000000 in
theorem iStateOk_any (ap : Option Addr) (np cp : Nat) (ab : Option Addr) (nb cb : Nat) (al : Option Addr) (nl cl : Nat) (T N : Int) (aS : Option Addr) (ns cs : Nat) (X C : Int) (ps : List Pl) (bs : List Bk) (ls : List Ls) (ss : List Ss) (w : World) (hnp : np = ps.length) (hnb : nb = bs.length) (hnl : nl = ls.length) (hns : ns = ss.length) (hP : RowG KPl w ap ps) (hK : RowG KBk w ab bs) (hL : RowG KLs w al ls) (hS : RowG KSs w aS ss) (hlp : np ≤ 1048576) (hlb : nb ≤ 1048576) (hll : nl ≤ 1048576) (hls : ns ≤ 1048576) (hsb : ∀ q ∈ bs, q.t.size ≤ 9223372036854775807) (hsl : ∀ q ∈ ls, q.t.size ≤ 9223372036854775807) :
    Calls Tryz.prog 28 #[.agg #[.slice ap np cp, .slice ab nb cb, .slice al nl cl, .int .i64 T, .int .i64 N, .slice aS ns cs, .int .i64 X, .int .i64 C]] w fun e w' => e = .returned (.bool (stB ps bs ls T N ss X C)) ∧ Below w.heap.size w w' := by
  have HP := hidP (fun W h => iPlanOk_any ap np cp ab nb cb ps bs W hnp hnb (hP.later h) (hK.later h) (by omega) (by omega) hsb)
  have HB := hidP (fun W h => iBookOk_any al nl cl T N ls W hnl (hL.later h) hll hsl)
  have HD := hidP (fun W h => iDeskOk_any aS ns cs X ss W hns (hS.later h) hls)
  have HLi := hidP (fun sb W hb hs s1 s2 => leasesLie_any sb ab nb cb bs al nl cl ls W hnb (hK.later hb) (by omega) hnl (hL.later hb) (by omega) hs s1 s2)
  unfold stB
  clear hP hK hL hS hnp hnb hnl hns hsb hsl
  generalize planB ps bs = r1 at *
  generalize bkB ls T N = r2 at *
  generalize dkB ss X = r3 at *
  cases r1
  · go_enter Tryz.func28, Tryz.ntmps28
    go_wp2_with fail
    obtain ⟨bx0_W1, bx1_W1, bx2_W1, bx3_W1, bx4_W1, bx5_W1, bx6_W1, bx7_W1⟩ := bx8 w 48 (.slice ap np cp) (.slice ab nb cb) (.slice al nl cl) (.int .i64 T) (.int .i64 N) (.slice aS ns cs) (.int .i64 X) (.int .i64 C)
    have bxF_W1 : ∀ o, (w.alloc (.cells #[.slice ap np cp, .slice ab nb cb, .slice al nl cl, .int .i64 T, .int .i64 N, .slice aS ns cs, .int .i64 X, .int .i64 C] 48)).frozen? ⟨w.heap.size, o, none⟩ = false := fun o => by simp [go_sem]
    have bxL_W1 : w.heap.size < (w.alloc (.cells #[.slice ap np cp, .slice ab nb cb, .slice al nl cl, .int .i64 T, .int .i64 N, .slice aS ns cs, .int .i64 X, .int .i64 C] 48)).heap.size := by simp
    have ab_W1 := alloc_below w (.cells #[.slice ap np cp, .slice ab nb cb, .slice al nl cl, .int .i64 T, .int .i64 N, .slice aS ns cs, .int .i64 X, .int .i64 C] 48)
    have as_W1 : Hid ((w.alloc (.cells #[.slice ap np cp, .slice ab nb cb, .slice al nl cl, .int .i64 T, .int .i64 N, .slice aS ns cs, .int .i64 X, .int .i64 C] 48)).heap.size = w.heap.size + 1) := hidP (by simp)
    generalize w.alloc (.cells #[.slice ap np cp, .slice ab nb cb, .slice al nl cl, .int .i64 T, .int .i64 N, .slice aS ns cs, .int .i64 X, .int .i64 C] 48) = W1 at *
    have acc_W1 := hidP (ab_W1)
    have sz_W1 : Hid (w.heap.size ≤ W1.heap.size) := hidP ab_W1.size
    clear ab_W1 
    refine (HP.out _ acc_W1.out).mono ?_
    rintro e u0 ⟨rfl, hb0⟩
    have bx0_u0 := (hb0.cell bxL_W1).trans bx0_W1
    have bx1_u0 := (hb0.cell bxL_W1).trans bx1_W1
    have bx2_u0 := (hb0.cell bxL_W1).trans bx2_W1
    have bx3_u0 := (hb0.cell bxL_W1).trans bx3_W1
    have bx4_u0 := (hb0.cell bxL_W1).trans bx4_W1
    have bx5_u0 := (hb0.cell bxL_W1).trans bx5_W1
    have bx6_u0 := (hb0.cell bxL_W1).trans bx6_W1
    have bx7_u0 := (hb0.cell bxL_W1).trans bx7_W1
    have bxF_u0 : ∀ o, u0.frozen? ⟨w.heap.size, o, none⟩ = false := fun o => (hb0.frozen bxL_W1).trans (bxF_W1 o)
    have bxL_u0 : w.heap.size < u0.heap.size := Nat.lt_of_lt_of_le bxL_W1 hb0.size
    have acc_u0 := hidP (acc_W1.out.trans (hb0.mono acc_W1.out.size))
    have sz_u0 : Hid (W1.heap.size ≤ u0.heap.size) := hidP hb0.size
    clear hb0 bx0_W1 bx1_W1 bx2_W1 bx3_W1 bx4_W1 bx5_W1 bx6_W1 bx7_W1 bxF_W1 bxL_W1 acc_W1
    go_wp2_with fail
    go_ret
    exact ⟨rfl, acc_u0.out⟩
  · cases r2
    · go_enter Tryz.func28, Tryz.ntmps28
      go_wp2_with fail
      obtain ⟨bx0_W1, bx1_W1, bx2_W1, bx3_W1, bx4_W1, bx5_W1, bx6_W1, bx7_W1⟩ := bx8 w 48 (.slice ap np cp) (.slice ab nb cb) (.slice al nl cl) (.int .i64 T) (.int .i64 N) (.slice aS ns cs) (.int .i64 X) (.int .i64 C)
      have bxF_W1 : ∀ o, (w.alloc (.cells #[.slice ap np cp, .slice ab nb cb, .slice al nl cl, .int .i64 T, .int .i64 N, .slice aS ns cs, .int .i64 X, .int .i64 C] 48)).frozen? ⟨w.heap.size, o, none⟩ = false := fun o => by simp [go_sem]
      have bxL_W1 : w.heap.size < (w.alloc (.cells #[.slice ap np cp, .slice ab nb cb, .slice al nl cl, .int .i64 T, .int .i64 N, .slice aS ns cs, .int .i64 X, .int .i64 C] 48)).heap.size := by simp
      have ab_W1 := alloc_below w (.cells #[.slice ap np cp, .slice ab nb cb, .slice al nl cl, .int .i64 T, .int .i64 N, .slice aS ns cs, .int .i64 X, .int .i64 C] 48)
      have as_W1 : Hid ((w.alloc (.cells #[.slice ap np cp, .slice ab nb cb, .slice al nl cl, .int .i64 T, .int .i64 N, .slice aS ns cs, .int .i64 X, .int .i64 C] 48)).heap.size = w.heap.size + 1) := hidP (by simp)
      generalize w.alloc (.cells #[.slice ap np cp, .slice ab nb cb, .slice al nl cl, .int .i64 T, .int .i64 N, .slice aS ns cs, .int .i64 X, .int .i64 C] 48) = W1 at *
      have acc_W1 := hidP (ab_W1)
      have sz_W1 : Hid (w.heap.size ≤ W1.heap.size) := hidP ab_W1.size
      clear ab_W1 
      refine (HP.out _ acc_W1.out).mono ?_
      rintro e u0 ⟨rfl, hb0⟩
      have bx0_u0 := (hb0.cell bxL_W1).trans bx0_W1
      have bx1_u0 := (hb0.cell bxL_W1).trans bx1_W1
      have bx2_u0 := (hb0.cell bxL_W1).trans bx2_W1
      have bx3_u0 := (hb0.cell bxL_W1).trans bx3_W1
      have bx4_u0 := (hb0.cell bxL_W1).trans bx4_W1
      have bx5_u0 := (hb0.cell bxL_W1).trans bx5_W1
      have bx6_u0 := (hb0.cell bxL_W1).trans bx6_W1
      have bx7_u0 := (hb0.cell bxL_W1).trans bx7_W1
      have bxF_u0 : ∀ o, u0.frozen? ⟨w.heap.size, o, none⟩ = false := fun o => (hb0.frozen bxL_W1).trans (bxF_W1 o)
      have bxL_u0 : w.heap.size < u0.heap.size := Nat.lt_of_lt_of_le bxL_W1 hb0.size
      have acc_u0 := hidP (acc_W1.out.trans (hb0.mono acc_W1.out.size))
      have sz_u0 : Hid (W1.heap.size ≤ u0.heap.size) := hidP hb0.size
      clear hb0 bx0_W1 bx1_W1 bx2_W1 bx3_W1 bx4_W1 bx5_W1 bx6_W1 bx7_W1 bxF_W1 bxL_W1 acc_W1
      go_wp2_with fail
      refine (HB.out _ acc_u0.out).mono ?_
      rintro e u1 ⟨rfl, hb1⟩
      have bx0_u1 := (hb1.cell bxL_u0).trans bx0_u0
      have bx1_u1 := (hb1.cell bxL_u0).trans bx1_u0
      have bx2_u1 := (hb1.cell bxL_u0).trans bx2_u0
      have bx3_u1 := (hb1.cell bxL_u0).trans bx3_u0
      have bx4_u1 := (hb1.cell bxL_u0).trans bx4_u0
      have bx5_u1 := (hb1.cell bxL_u0).trans bx5_u0
      have bx6_u1 := (hb1.cell bxL_u0).trans bx6_u0
      have bx7_u1 := (hb1.cell bxL_u0).trans bx7_u0
      have bxF_u1 : ∀ o, u1.frozen? ⟨w.heap.size, o, none⟩ = false := fun o => (hb1.frozen bxL_u0).trans (bxF_u0 o)
      have bxL_u1 : w.heap.size < u1.heap.size := Nat.lt_of_lt_of_le bxL_u0 hb1.size
      have acc_u1 := hidP (acc_u0.out.trans (hb1.mono acc_u0.out.size))
      have sz_u1 : Hid (u0.heap.size ≤ u1.heap.size) := hidP hb1.size
      clear hb1 bx0_u0 bx1_u0 bx2_u0 bx3_u0 bx4_u0 bx5_u0 bx6_u0 bx7_u0 bxF_u0 bxL_u0 acc_u0
      go_wp2_with fail
      go_ret
      exact ⟨rfl, acc_u1.out⟩
    · cases r3
      · go_enter Tryz.func28, Tryz.ntmps28
        go_wp2_with fail
        obtain ⟨bx0_W1, bx1_W1, bx2_W1, bx3_W1, bx4_W1, bx5_W1, bx6_W1, bx7_W1⟩ := bx8 w 48 (.slice ap np cp) (.slice ab nb cb) (.slice al nl cl) (.int .i64 T) (.int .i64 N) (.slice aS ns cs) (.int .i64 X) (.int .i64 C)
        have bxF_W1 : ∀ o, (w.alloc (.cells #[.slice ap np cp, .slice ab nb cb, .slice al nl cl, .int .i64 T, .int .i64 N, .slice aS ns cs, .int .i64 X, .int .i64 C] 48)).frozen? ⟨w.heap.size, o, none⟩ = false := fun o => by simp [go_sem]
        have bxL_W1 : w.heap.size < (w.alloc (.cells #[.slice ap np cp, .slice ab nb cb, .slice al nl cl, .int .i64 T, .int .i64 N, .slice aS ns cs, .int .i64 X, .int .i64 C] 48)).heap.size := by simp
        have ab_W1 := alloc_below w (.cells #[.slice ap np cp, .slice ab nb cb, .slice al nl cl, .int .i64 T, .int .i64 N, .slice aS ns cs, .int .i64 X, .int .i64 C] 48)
        have as_W1 : Hid ((w.alloc (.cells #[.slice ap np cp, .slice ab nb cb, .slice al nl cl, .int .i64 T, .int .i64 N, .slice aS ns cs, .int .i64 X, .int .i64 C] 48)).heap.size = w.heap.size + 1) := hidP (by simp)
        generalize w.alloc (.cells #[.slice ap np cp, .slice ab nb cb, .slice al nl cl, .int .i64 T, .int .i64 N, .slice aS ns cs, .int .i64 X, .int .i64 C] 48) = W1 at *
        have acc_W1 := hidP (ab_W1)
        have sz_W1 : Hid (w.heap.size ≤ W1.heap.size) := hidP ab_W1.size
        clear ab_W1 
        refine (HP.out _ acc_W1.out).mono ?_
        rintro e u0 ⟨rfl, hb0⟩
        have bx0_u0 := (hb0.cell bxL_W1).trans bx0_W1
        have bx1_u0 := (hb0.cell bxL_W1).trans bx1_W1
        have bx2_u0 := (hb0.cell bxL_W1).trans bx2_W1
        have bx3_u0 := (hb0.cell bxL_W1).trans bx3_W1
        have bx4_u0 := (hb0.cell bxL_W1).trans bx4_W1
        have bx5_u0 := (hb0.cell bxL_W1).trans bx5_W1
        have bx6_u0 := (hb0.cell bxL_W1).trans bx6_W1
        have bx7_u0 := (hb0.cell bxL_W1).trans bx7_W1
        have bxF_u0 : ∀ o, u0.frozen? ⟨w.heap.size, o, none⟩ = false := fun o => (hb0.frozen bxL_W1).trans (bxF_W1 o)
        have bxL_u0 : w.heap.size < u0.heap.size := Nat.lt_of_lt_of_le bxL_W1 hb0.size
        have acc_u0 := hidP (acc_W1.out.trans (hb0.mono acc_W1.out.size))
        have sz_u0 : Hid (W1.heap.size ≤ u0.heap.size) := hidP hb0.size
        clear hb0 bx0_W1 bx1_W1 bx2_W1 bx3_W1 bx4_W1 bx5_W1 bx6_W1 bx7_W1 bxF_W1 bxL_W1 acc_W1
        go_wp2_with fail
        refine (HB.out _ acc_u0.out).mono ?_
        rintro e u1 ⟨rfl, hb1⟩
        have bx0_u1 := (hb1.cell bxL_u0).trans bx0_u0
        have bx1_u1 := (hb1.cell bxL_u0).trans bx1_u0
        have bx2_u1 := (hb1.cell bxL_u0).trans bx2_u0
        have bx3_u1 := (hb1.cell bxL_u0).trans bx3_u0
        have bx4_u1 := (hb1.cell bxL_u0).trans bx4_u0
        have bx5_u1 := (hb1.cell bxL_u0).trans bx5_u0
        have bx6_u1 := (hb1.cell bxL_u0).trans bx6_u0
        have bx7_u1 := (hb1.cell bxL_u0).trans bx7_u0
        have bxF_u1 : ∀ o, u1.frozen? ⟨w.heap.size, o, none⟩ = false := fun o => (hb1.frozen bxL_u0).trans (bxF_u0 o)
        have bxL_u1 : w.heap.size < u1.heap.size := Nat.lt_of_lt_of_le bxL_u0 hb1.size
        have acc_u1 := hidP (acc_u0.out.trans (hb1.mono acc_u0.out.size))
        have sz_u1 : Hid (u0.heap.size ≤ u1.heap.size) := hidP hb1.size
        clear hb1 bx0_u0 bx1_u0 bx2_u0 bx3_u0 bx4_u0 bx5_u0 bx6_u0 bx7_u0 bxF_u0 bxL_u0 acc_u0
        go_wp2_with fail
        refine (HD.out _ acc_u1.out).mono ?_
        rintro e u2 ⟨rfl, hb2⟩
        have bx0_u2 := (hb2.cell bxL_u1).trans bx0_u1
        have bx1_u2 := (hb2.cell bxL_u1).trans bx1_u1
        have bx2_u2 := (hb2.cell bxL_u1).trans bx2_u1
        have bx3_u2 := (hb2.cell bxL_u1).trans bx3_u1
        have bx4_u2 := (hb2.cell bxL_u1).trans bx4_u1
        have bx5_u2 := (hb2.cell bxL_u1).trans bx5_u1
        have bx6_u2 := (hb2.cell bxL_u1).trans bx6_u1
        have bx7_u2 := (hb2.cell bxL_u1).trans bx7_u1
        have bxF_u2 : ∀ o, u2.frozen? ⟨w.heap.size, o, none⟩ = false := fun o => (hb2.frozen bxL_u1).trans (bxF_u1 o)
        have bxL_u2 : w.heap.size < u2.heap.size := Nat.lt_of_lt_of_le bxL_u1 hb2.size
        have acc_u2 := hidP (acc_u1.out.trans (hb2.mono acc_u1.out.size))
        have sz_u2 : Hid (u1.heap.size ≤ u2.heap.size) := hidP hb2.size
        clear hb2 bx0_u1 bx1_u1 bx2_u1 bx3_u1 bx4_u1 bx5_u1 bx6_u1 bx7_u1 bxF_u1 bxL_u1 acc_u1
        go_wp2_with fail
        go_ret
        exact ⟨rfl, acc_u2.out⟩
      · cases hc : decide (0 ≤ C)
        · have hc2 : ¬ (0 ≤ C) := of_decide_eq_false hc
          go_enter Tryz.func28, Tryz.ntmps28
          go_wp2_with fail
          obtain ⟨bx0_W1, bx1_W1, bx2_W1, bx3_W1, bx4_W1, bx5_W1, bx6_W1, bx7_W1⟩ := bx8 w 48 (.slice ap np cp) (.slice ab nb cb) (.slice al nl cl) (.int .i64 T) (.int .i64 N) (.slice aS ns cs) (.int .i64 X) (.int .i64 C)
          have bxF_W1 : ∀ o, (w.alloc (.cells #[.slice ap np cp, .slice ab nb cb, .slice al nl cl, .int .i64 T, .int .i64 N, .slice aS ns cs, .int .i64 X, .int .i64 C] 48)).frozen? ⟨w.heap.size, o, none⟩ = false := fun o => by simp [go_sem]
          have bxL_W1 : w.heap.size < (w.alloc (.cells #[.slice ap np cp, .slice ab nb cb, .slice al nl cl, .int .i64 T, .int .i64 N, .slice aS ns cs, .int .i64 X, .int .i64 C] 48)).heap.size := by simp
          have ab_W1 := alloc_below w (.cells #[.slice ap np cp, .slice ab nb cb, .slice al nl cl, .int .i64 T, .int .i64 N, .slice aS ns cs, .int .i64 X, .int .i64 C] 48)
          have as_W1 : Hid ((w.alloc (.cells #[.slice ap np cp, .slice ab nb cb, .slice al nl cl, .int .i64 T, .int .i64 N, .slice aS ns cs, .int .i64 X, .int .i64 C] 48)).heap.size = w.heap.size + 1) := hidP (by simp)
          generalize w.alloc (.cells #[.slice ap np cp, .slice ab nb cb, .slice al nl cl, .int .i64 T, .int .i64 N, .slice aS ns cs, .int .i64 X, .int .i64 C] 48) = W1 at *
          have acc_W1 := hidP (ab_W1)
          have sz_W1 : Hid (w.heap.size ≤ W1.heap.size) := hidP ab_W1.size
          clear ab_W1 
          refine (HP.out _ acc_W1.out).mono ?_
          rintro e u0 ⟨rfl, hb0⟩
          have bx0_u0 := (hb0.cell bxL_W1).trans bx0_W1
          have bx1_u0 := (hb0.cell bxL_W1).trans bx1_W1
          have bx2_u0 := (hb0.cell bxL_W1).trans bx2_W1
          have bx3_u0 := (hb0.cell bxL_W1).trans bx3_W1
          have bx4_u0 := (hb0.cell bxL_W1).trans bx4_W1
          have bx5_u0 := (hb0.cell bxL_W1).trans bx5_W1
          have bx6_u0 := (hb0.cell bxL_W1).trans bx6_W1
          have bx7_u0 := (hb0.cell bxL_W1).trans bx7_W1
          have bxF_u0 : ∀ o, u0.frozen? ⟨w.heap.size, o, none⟩ = false := fun o => (hb0.frozen bxL_W1).trans (bxF_W1 o)
          have bxL_u0 : w.heap.size < u0.heap.size := Nat.lt_of_lt_of_le bxL_W1 hb0.size
          have acc_u0 := hidP (acc_W1.out.trans (hb0.mono acc_W1.out.size))
          have sz_u0 : Hid (W1.heap.size ≤ u0.heap.size) := hidP hb0.size
          clear hb0 bx0_W1 bx1_W1 bx2_W1 bx3_W1 bx4_W1 bx5_W1 bx6_W1 bx7_W1 bxF_W1 bxL_W1 acc_W1
          go_wp2_with fail
          refine (HB.out _ acc_u0.out).mono ?_
          rintro e u1 ⟨rfl, hb1⟩
          have bx0_u1 := (hb1.cell bxL_u0).trans bx0_u0
          have bx1_u1 := (hb1.cell bxL_u0).trans bx1_u0
          have bx2_u1 := (hb1.cell bxL_u0).trans bx2_u0
          have bx3_u1 := (hb1.cell bxL_u0).trans bx3_u0
          have bx4_u1 := (hb1.cell bxL_u0).trans bx4_u0
          have bx5_u1 := (hb1.cell bxL_u0).trans bx5_u0
          have bx6_u1 := (hb1.cell bxL_u0).trans bx6_u0
          have bx7_u1 := (hb1.cell bxL_u0).trans bx7_u0
          have bxF_u1 : ∀ o, u1.frozen? ⟨w.heap.size, o, none⟩ = false := fun o => (hb1.frozen bxL_u0).trans (bxF_u0 o)
          have bxL_u1 : w.heap.size < u1.heap.size := Nat.lt_of_lt_of_le bxL_u0 hb1.size
          have acc_u1 := hidP (acc_u0.out.trans (hb1.mono acc_u0.out.size))
          have sz_u1 : Hid (u0.heap.size ≤ u1.heap.size) := hidP hb1.size
          clear hb1 bx0_u0 bx1_u0 bx2_u0 bx3_u0 bx4_u0 bx5_u0 bx6_u0 bx7_u0 bxF_u0 bxL_u0 acc_u0
          go_wp2_with fail
          refine (HD.out _ acc_u1.out).mono ?_
          rintro e u2 ⟨rfl, hb2⟩
          have bx0_u2 := (hb2.cell bxL_u1).trans bx0_u1
          have bx1_u2 := (hb2.cell bxL_u1).trans bx1_u1
          have bx2_u2 := (hb2.cell bxL_u1).trans bx2_u1
          have bx3_u2 := (hb2.cell bxL_u1).trans bx3_u1
          have bx4_u2 := (hb2.cell bxL_u1).trans bx4_u1
          have bx5_u2 := (hb2.cell bxL_u1).trans bx5_u1
          have bx6_u2 := (hb2.cell bxL_u1).trans bx6_u1
          have bx7_u2 := (hb2.cell bxL_u1).trans bx7_u1
          have bxF_u2 : ∀ o, u2.frozen? ⟨w.heap.size, o, none⟩ = false := fun o => (hb2.frozen bxL_u1).trans (bxF_u1 o)
          have bxL_u2 : w.heap.size < u2.heap.size := Nat.lt_of_lt_of_le bxL_u1 hb2.size
          have acc_u2 := hidP (acc_u1.out.trans (hb2.mono acc_u1.out.size))
          have sz_u2 : Hid (u1.heap.size ≤ u2.heap.size) := hidP hb2.size
          clear hb2 bx0_u1 bx1_u1 bx2_u1 bx3_u1 bx4_u1 bx5_u1 bx6_u1 bx7_u1 bxF_u1 bxL_u1 acc_u1
          go_wp2_with fail
          go_ret
          exact ⟨rfl, acc_u2.out⟩
        · have hc2 : 0 ≤ C := of_decide_eq_true hc
          generalize ls.all (lieB bs) = r5 at *
          go_enter Tryz.func28, Tryz.ntmps28
          go_wp2_with fail
          obtain ⟨bx0_W1, bx1_W1, bx2_W1, bx3_W1, bx4_W1, bx5_W1, bx6_W1, bx7_W1⟩ := bx8 w 48 (.slice ap np cp) (.slice ab nb cb) (.slice al nl cl) (.int .i64 T) (.int .i64 N) (.slice aS ns cs) (.int .i64 X) (.int .i64 C)
          have bxF_W1 : ∀ o, (w.alloc (.cells #[.slice ap np cp, .slice ab nb cb, .slice al nl cl, .int .i64 T, .int .i64 N, .slice aS ns cs, .int .i64 X, .int .i64 C] 48)).frozen? ⟨w.heap.size, o, none⟩ = false := fun o => by simp [go_sem]
          have bxL_W1 : w.heap.size < (w.alloc (.cells #[.slice ap np cp, .slice ab nb cb, .slice al nl cl, .int .i64 T, .int .i64 N, .slice aS ns cs, .int .i64 X, .int .i64 C] 48)).heap.size := by simp
          have ab_W1 := alloc_below w (.cells #[.slice ap np cp, .slice ab nb cb, .slice al nl cl, .int .i64 T, .int .i64 N, .slice aS ns cs, .int .i64 X, .int .i64 C] 48)
          have as_W1 : Hid ((w.alloc (.cells #[.slice ap np cp, .slice ab nb cb, .slice al nl cl, .int .i64 T, .int .i64 N, .slice aS ns cs, .int .i64 X, .int .i64 C] 48)).heap.size = w.heap.size + 1) := hidP (by simp)
          generalize w.alloc (.cells #[.slice ap np cp, .slice ab nb cb, .slice al nl cl, .int .i64 T, .int .i64 N, .slice aS ns cs, .int .i64 X, .int .i64 C] 48) = W1 at *
          have acc_W1 := hidP (ab_W1)
          have sz_W1 : Hid (w.heap.size ≤ W1.heap.size) := hidP ab_W1.size
          clear ab_W1 
          refine (HP.out _ acc_W1.out).mono ?_
          rintro e u0 ⟨rfl, hb0⟩
          have bx0_u0 := (hb0.cell bxL_W1).trans bx0_W1
          have bx1_u0 := (hb0.cell bxL_W1).trans bx1_W1
          have bx2_u0 := (hb0.cell bxL_W1).trans bx2_W1
          have bx3_u0 := (hb0.cell bxL_W1).trans bx3_W1
          have bx4_u0 := (hb0.cell bxL_W1).trans bx4_W1
          have bx5_u0 := (hb0.cell bxL_W1).trans bx5_W1
          have bx6_u0 := (hb0.cell bxL_W1).trans bx6_W1
          have bx7_u0 := (hb0.cell bxL_W1).trans bx7_W1
          have bxF_u0 : ∀ o, u0.frozen? ⟨w.heap.size, o, none⟩ = false := fun o => (hb0.frozen bxL_W1).trans (bxF_W1 o)
          have bxL_u0 : w.heap.size < u0.heap.size := Nat.lt_of_lt_of_le bxL_W1 hb0.size
          have acc_u0 := hidP (acc_W1.out.trans (hb0.mono acc_W1.out.size))
          have sz_u0 : Hid (W1.heap.size ≤ u0.heap.size) := hidP hb0.size
          clear hb0 bx0_W1 bx1_W1 bx2_W1 bx3_W1 bx4_W1 bx5_W1 bx6_W1 bx7_W1 bxF_W1 bxL_W1 acc_W1
          go_wp2_with fail
          refine (HB.out _ acc_u0.out).mono ?_
          rintro e u1 ⟨rfl, hb1⟩
          have bx0_u1 := (hb1.cell bxL_u0).trans bx0_u0
          have bx1_u1 := (hb1.cell bxL_u0).trans bx1_u0
          have bx2_u1 := (hb1.cell bxL_u0).trans bx2_u0
          have bx3_u1 := (hb1.cell bxL_u0).trans bx3_u0
          have bx4_u1 := (hb1.cell bxL_u0).trans bx4_u0
          have bx5_u1 := (hb1.cell bxL_u0).trans bx5_u0
          have bx6_u1 := (hb1.cell bxL_u0).trans bx6_u0
          have bx7_u1 := (hb1.cell bxL_u0).trans bx7_u0
          have bxF_u1 : ∀ o, u1.frozen? ⟨w.heap.size, o, none⟩ = false := fun o => (hb1.frozen bxL_u0).trans (bxF_u0 o)
          have bxL_u1 : w.heap.size < u1.heap.size := Nat.lt_of_lt_of_le bxL_u0 hb1.size
          have acc_u1 := hidP (acc_u0.out.trans (hb1.mono acc_u0.out.size))
          have sz_u1 : Hid (u0.heap.size ≤ u1.heap.size) := hidP hb1.size
          clear hb1 bx0_u0 bx1_u0 bx2_u0 bx3_u0 bx4_u0 bx5_u0 bx6_u0 bx7_u0 bxF_u0 bxL_u0 acc_u0
          go_wp2_with fail
          refine (HD.out _ acc_u1.out).mono ?_
          rintro e u2 ⟨rfl, hb2⟩
          have bx0_u2 := (hb2.cell bxL_u1).trans bx0_u1
          have bx1_u2 := (hb2.cell bxL_u1).trans bx1_u1
          have bx2_u2 := (hb2.cell bxL_u1).trans bx2_u1
          have bx3_u2 := (hb2.cell bxL_u1).trans bx3_u1
          have bx4_u2 := (hb2.cell bxL_u1).trans bx4_u1
          have bx5_u2 := (hb2.cell bxL_u1).trans bx5_u1
          have bx6_u2 := (hb2.cell bxL_u1).trans bx6_u1
          have bx7_u2 := (hb2.cell bxL_u1).trans bx7_u1
          have bxF_u2 : ∀ o, u2.frozen? ⟨w.heap.size, o, none⟩ = false := fun o => (hb2.frozen bxL_u1).trans (bxF_u1 o)
          have bxL_u2 : w.heap.size < u2.heap.size := Nat.lt_of_lt_of_le bxL_u1 hb2.size
          have acc_u2 := hidP (acc_u1.out.trans (hb2.mono acc_u1.out.size))
          have sz_u2 : Hid (u1.heap.size ≤ u2.heap.size) := hidP hb2.size
          clear hb2 bx0_u1 bx1_u1 bx2_u1 bx3_u1 bx4_u1 bx5_u1 bx6_u1 bx7_u1 bxF_u1 bxL_u1 acc_u1
          go_wp2_with fail
          refine (HLi.out w.heap.size _ acc_u2.out bxL_u2 bx1_u2 bx2_u2).mono ?_
          rintro e u3 ⟨rfl, hb3⟩
          have bx0_u3 := (hb3.cell bxL_u2).trans bx0_u2
          have bx1_u3 := (hb3.cell bxL_u2).trans bx1_u2
          have bx2_u3 := (hb3.cell bxL_u2).trans bx2_u2
          have bx3_u3 := (hb3.cell bxL_u2).trans bx3_u2
          have bx4_u3 := (hb3.cell bxL_u2).trans bx4_u2
          have bx5_u3 := (hb3.cell bxL_u2).trans bx5_u2
          have bx6_u3 := (hb3.cell bxL_u2).trans bx6_u2
          have bx7_u3 := (hb3.cell bxL_u2).trans bx7_u2
          have bxF_u3 : ∀ o, u3.frozen? ⟨w.heap.size, o, none⟩ = false := fun o => (hb3.frozen bxL_u2).trans (bxF_u2 o)
          have bxL_u3 : w.heap.size < u3.heap.size := Nat.lt_of_lt_of_le bxL_u2 hb3.size
          have acc_u3 := hidP (acc_u2.out.trans (hb3.mono acc_u2.out.size))
          have sz_u3 : Hid (u2.heap.size ≤ u3.heap.size) := hidP hb3.size
          clear hb3 bx0_u2 bx1_u2 bx2_u2 bx3_u2 bx4_u2 bx5_u2 bx6_u2 bx7_u2 bxF_u2 bxL_u2 acc_u2
          go_wp2_with fail
          go_ret
          exact ⟨by cases r5 <;> rfl, acc_u3.out⟩

end Go.Proofs.YtngcbhbcocnbeaaGreat
