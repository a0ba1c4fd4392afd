/-
  The two looks at rows of Ids and at groups.
-/
import Derived.Test.YtmfbmnpfgbenmaaChecked
import GoSem.Claim
import GoSem.ClaimJoined
import GoSem.ClaimMapViews
import Derived.JoinedTies
import Derived.KernelRfl
import Derived.WalkKit
import Derived.WalkSpells
import Derived.WalkLawsBesides
import Derived.Deep.AppendSrc
import Derived.OwnWalk
import Derived.Deep.RegionWith
import Derived.Deep.DeepCutAuto
import Derived.Deep.QuietTactic
import Derived.BigQuiet
import Derived.Deep.AppendLies
import Derived.Carry
import Derived.Deep.Slices
import Derived.Deep.RegionHeld3
import Derived.ChangeMaps5
import Derived.Lib.SmallJoins
import Derived.Lib.SliceRun
import Derived.Test.YtmfbmnpfgbenmaaZW3
import Derived.Test.YtmfbmnpfgbenmaaZW1
namespace Go.Proofs.Ytmfbmnpfgbenmaa
open Go.ChangeShapes Go.WideShapes Go.ChangeAt Go.RowKit Go.Joins Go.Deep

/-- Ascending above some number, none above 7. -/
def idsB (l : Int) : List Int → Bool
  | [] => true
  | q :: t => (decide (l < q) && decide (q ≤ 7)) && idsB q t
/-- What stands ahead of the k-th (0: nothing). -/
def prI (ps : List Int) (k : Nat) : Int := match k with
  | 0 => 0
  | j + 1 => (ps[j]?).getD 0
theorem prI_next {ps : List Int} {k : Nat} {q : Int} (h : ps[k]? = some q) : prI ps (k + 1) = q := by simp [prI, h]
theorem dropI {ps : List Int} {k : Nat} {q : Int} (h : ps[k]? = some q) : ps.drop k = q :: ps.drop (k + 1) := by
  obtain ⟨hk, rfl⟩ := List.getElem?_eq_some_iff.1 h
  rw [List.drop_eq_getElem_cons hk]
theorem retB {a b : Bool} (h : a = b) : Ending.returned (.bool a) = .returned (.bool b) := by rw [h]

theorem l1In12 (x lo hi : Int) (w : World) :
    Calls Try.prog 17 #[.int .i64 x, .int .i64 lo, .int .i64 hi] w fun e w' => e = .returned (.bool (decide (lo ≤ x) && decide (x ≤ hi))) ∧ w = w' := by
  by_cases h : lo ≤ x
  · have d1 : decide (lo ≤ x) = true := decide_eq_true h
    rw [d1, Bool.true_and]
    go_enter Try.func17, Try.ntmps17
    go_wp2
    go_ret
    exact ⟨rfl, rfl⟩
  · have d1 : decide (lo ≤ x) = false := decide_eq_false h
    rw [d1, Bool.false_and]
    go_enter Try.func17, Try.ntmps17
    go_wp2
    go_ret
    exact ⟨rfl, rfl⟩

set_option maxHeartbeats 2000000 in
theorem idsOk_any (a : Option Addr) (n c : Nat) (ps : List Int) (w : World) (hn : n = ps.length) (hB : RowG KI w a ps) (hl : n ≤ 1048576) :
    Calls Try.prog 64 #[.slice a n c] w fun e w' => e = .returned (.bool (idsB 0 ps)) ∧ w' = w := by
  have HB := hidP hB
  have HN := hidP hn
  clear hB hn
  go_enter Try.func64, Try.ntmps64
  go_wp2
  go_loop [3, 5, 8] (fun t3 _ t8 => ∃ (k : Nat) (l : Int), k ≤ n ∧ t8 = .int .i64 k ∧ t3 = .int .i64 l ∧ idsB 0 ps = idsB l (ps.drop k)) (fun _ _ t8 => n - (intOf t8).toNat)
  case atStart => exact ⟨0, 0, Nat.zero_le _, rfl, rfl, rfl⟩
  case round =>
    obtain ⟨k, l, hk, rfl, rfl, hpo⟩ := hrel
    by_cases hlt : k < n
    · obtain ⟨p, o, q, rfl, hp, hq, c0⟩ := rowI HB.out k (by rw [← HN.out]; exact hlt)
      rw [dropI hq] at hpo
      have hpo' : idsB 0 ps = ((decide (l < q) && decide (q ≤ 7)) && idsB q (ps.drop (k + 1))) := hpo
      have HPo := hidP hpo'
      clear hpo hpo' hq
      by_cases h1 : l < q
      · have d1 : decide (q ≤ l) = false := decide_eq_false (by omega)
        have e1 : decide (l < q) = true := decide_eq_true h1
        by_cases h2 : q ≤ 7
        · have d2 : decide (7 < q) = false := decide_eq_false (by omega)
          have e2 : decide (q ≤ 7) = true := decide_eq_true h2
          rw [e1, e2] at HPo
          have HF : Hid (idsB 0 ps = idsB q (ps.drop (k + 1))) := hidP (by rw [HPo.out]; rfl)
          clear HPo
          go_wp2
          go_round
          case rel => exact ⟨k + 1, q, by omega, by go_num, rfl, HF.out⟩
          case measure => simp [intOf]; omega
        · have d2 : decide (7 < q) = true := decide_eq_true (by omega)
          have e2 : decide (q ≤ 7) = false := decide_eq_false h2
          rw [e1, e2] at HPo
          have HF : Hid (idsB 0 ps = false) := hidP (by rw [HPo.out]; rfl)
          clear HPo
          go_wp2
          go_ret
          exact ⟨retB HF.out.symm, rfl⟩
      · have d1 : decide (q ≤ l) = true := decide_eq_true (by omega)
        have e1 : decide (l < q) = false := decide_eq_false h1
        rw [e1] at HPo
        have HF : Hid (idsB 0 ps = false) := hidP (by rw [HPo.out]; rfl)
        clear HPo
        go_wp2
        go_ret
        exact ⟨retB HF.out.symm, rfl⟩
    · have HF : Hid (idsB 0 ps = true) := by
        rw [List.drop_of_length_le (by have := HN.out; omega)] at hpo
        exact hidP hpo
      clear hpo
      go_wp2
      go_ret
      exact ⟨retB HF.out.symm, rfl⟩

set_option maxRecDepth 10000 in
set_option maxHeartbeats 4000000 in
theorem l12Ids_any (a : Option Addr) (n c : Nat) (ps : List Int) (w : World) (hn : n = ps.length) (hB : RowG KI w a ps) (hl : n ≤ 1048576) :
    Calls Try.prog 18 #[.slice a n c] w fun e w' => e = .returned (.bool (idsB 0 ps)) ∧ Below w.heap.size w w' := by
  have HB := hidP hB
  have HN := hidP hn
  clear hB hn
  go_enter Try.func18, Try.ntmps18
  go_wp2_with fail
  go_loopw [3] (fun t3 wr => ∃ (k : Nat), k ≤ n ∧ t3 = .int .i64 k ∧ idsB 0 ps = idsB (prI ps k) (ps.drop k) ∧ 0 ≤ prI ps k ∧ Below w.heap.size w wr) (fun t3 _ => n - (intOf t3).toNat)
  case atStart => exact ⟨0, Nat.zero_le _, rfl, rfl, Int.le_refl _, Below.refl _ _⟩
  case round =>
    obtain ⟨k, hk, rfl, hpo, hpr, hbel⟩ := hrel
    have HBel := hidP hbel
    by_cases hlt : k < n
    · obtain ⟨p, o, q, rfl, hp, hq, c0⟩ := rowI HB.out k (by rw [← HN.out]; exact hlt)
      have d0 := (hbel.cell hp).trans c0
      have hpw : p < wr.heap.size := Nat.lt_of_lt_of_le hp hbel.size
      rw [dropI hq] at hpo
      have hpo' : idsB 0 ps = ((decide (prI ps k < q) && decide (q ≤ 7)) && idsB q (ps.drop (k + 1))) := hpo
      have HPo := hidP hpo'
      have HNx := hidP (prI_next hq)
      have HIn := hidP (l1In12 q 1 7)
      have kw : IntKind.i64.wrap (k : Int) = (k : Int) := by rw [IntKind.wrap_i64]; omega
      have k0 : (0 : Int) ≤ (k : Int) := by omega
      have k1 : (k : Int) < (n : Int) := by omega
      clear hpo hpo' hq hbel c0
      have HPr := hidP hpr
      by_cases h1 : 1 ≤ q ∧ q ≤ 7
      · have hv : (decide (1 ≤ q) && decide (q ≤ 7)) = true := by simp [h1]
        rw [hv] at HIn
        have e2 : decide (q ≤ 7) = true := decide_eq_true h1.2
        rw [e2] at HPo
        by_cases hk0 : k = 0
        · have g0 : decide ((0 : Int) < (k : Int)) = false := decide_eq_false (by omega)
          have g1 : decide (0 < k) = false := decide_eq_false (by omega)
          have HF : Hid (idsB 0 ps = idsB q (ps.drop (k + 1))) := hidP (by rw [HPo.out, hk0, decide_eq_true (show prI ps 0 < q by show (0 : Int) < q; omega)]; rfl)
          have HQ : Hid (0 ≤ prI ps (k + 1)) := hidP (by rw [HNx.out]; omega)
          clear HPo hk0 hpr HPr
          go_wp2_with fail
          have HSx : Hid (∀ x, Below wr.heap.size wr x → (x.cell? ⟨p, o + k, none⟩ = some (.int .i64 q) ∧ Below wr.heap.size wr x)) := hidP fun x h =>
            ⟨(h.cell hpw).trans d0, h⟩
          refine wp_region_held_drew (S := (fun x => x.cell? ⟨p, o + k, none⟩ = some (.int .i64 q) ∧ Below wr.heap.size wr x)) (by kernel_rfl) ?_ (fun hHeld => ?_)
          · try dsimp only
            exact HSx.out _ ((Below.refl _ _).drew)
          refine tk 0 10 rfl ?_
          simp only [pa]
          refine tk 1 11 rfl ?_
          simp only [pa]
          refine tk 2 12 rfl ?_
          simp only [pa]
          refine tk 3 13 rfl ?_
          simp only [pa]
          refine wpAnyH_ready (rs := [4]) (by kernel_rfl) (by simp) ?_
          refine AllReadyH.cons rfl (fun K hK => ?_) AllReadyH.nil
          go_simp
          go_wp2_with (first | (go_at_call 17; refine (HIn.out _).mono ?_; rintro e w4 ⟨rfl, rfl⟩))
          refine hK.out _ _ ?_ (fun hHeld => ?_)
          · try dsimp only
            exact HSx.out _ (hHeld.2)
          clear hK K
          refine tk 5 15 rfl ?_
          simp only [pa]
          refine tk 6 16 rfl ?_
          simp only [pa]
          refine tk 7 17 rfl ?_
          simp only [pa]
          refine tk 8 18 rfl ?_
          simp only [pa]
          refine tk 9 19 rfl ?_
          simp only [pa]
          refine sk 10 20 rfl ?_
          simp only [pa]
          refine sk 11 21 rfl ?_
          simp only [pa]
          refine sk 12 22 rfl ?_
          simp only [pa]
          refine sk 13 23 rfl ?_
          simp only [pa]
          refine sk 14 24 rfl ?_
          simp only [pa]
          refine sk 15 25 rfl ?_
          simp only [pa]
          refine sk 16 26 rfl ?_
          simp only [pa]
          refine sk 17 27 rfl ?_
          simp only [pa]
          refine sk 18 28 rfl ?_
          simp only [pa]
          refine sk 19 29 rfl ?_
          simp only [pa]
          refine tk 20 30 rfl ?_
          simp only [pa]
          refine tk 21 31 rfl ?_
          simp only [pa]
          have HE := hidP (hHeld.2)
          refine wpAnyH_done (by kernel_rfl) ?_ _
          clear hHeld
          go_wp2_with fail
          go_roundw
          case rel => exact ⟨k + 1, by omega, by go_num, by rw [HF.out, HNx.out], HQ.out, HBel.out.trans (HE.out.mono HBel.out.size)⟩
          case measure => simp [intOf]; omega
        · have g0 : decide ((0 : Int) < (k : Int)) = true := decide_eq_true (by omega)
          have g1 : decide (0 < k) = true := decide_eq_true (by omega)
          obtain ⟨J, hJ⟩ : ∃ J, J = k - 1 := ⟨_, rfl⟩
          have hkJ : k = J + 1 := by omega
          have hJi : (k : Int) - 1 = (J : Int) := by omega
          have wJ : IntKind.i64.wrap (J : Int) = (J : Int) := by rw [IntKind.wrap_i64]; omega
          have hJ0 : (0 : Int) ≤ (J : Int) := by omega
          have hJ1 : (J : Int) < (n : Int) := by omega
          have hJn : J < n := by omega
          obtain ⟨p', o', r, he, hp', hr, cJ⟩ := rowI HB.out J (by rw [← HN.out]; exact hJn)
          simp only [Option.some.injEq, Addr.mk.injEq, and_true] at he
          obtain ⟨rfl, rfl⟩ := he
          have dJ := (HBel.out.cell hp').trans cJ
          have hprv : prI ps k = r := by rw [hkJ]; exact prI_next hr
          rw [hprv] at HPo
          clear cJ hr hprv hJ hkJ hk0 hpr HPr
          by_cases h3 : r < q
          · have e3 : decide (r < q) = true := decide_eq_true h3
            have e4 : decide (q ≤ r) = false := decide_eq_false (by omega)
            rw [e3] at HPo
            have HF : Hid (idsB 0 ps = idsB q (ps.drop (k + 1))) := hidP (by rw [HPo.out]; rfl)
            have HQ : Hid (0 ≤ prI ps (k + 1)) := hidP (by rw [HNx.out]; omega)
            clear HPo
            go_wp2_with fail
            have HSx : Hid (∀ x, Below wr.heap.size wr x → (x.cell? ⟨p, o + k, none⟩ = some (.int .i64 q) ∧ x.cell? ⟨p, o + J, none⟩ = some (.int .i64 r) ∧ Below wr.heap.size wr x)) := hidP fun x h =>
              ⟨(h.cell hpw).trans d0, (h.cell hpw).trans dJ, h⟩
            refine wp_region_held_drew (S := (fun x => x.cell? ⟨p, o + k, none⟩ = some (.int .i64 q) ∧ x.cell? ⟨p, o + J, none⟩ = some (.int .i64 r) ∧ Below wr.heap.size wr x)) (by kernel_rfl) ?_ (fun hHeld => ?_)
            · try dsimp only
              exact HSx.out _ ((Below.refl _ _).drew)
            refine tk 0 10 rfl ?_
            simp only [pa]
            refine tk 1 11 rfl ?_
            simp only [pa]
            refine tk 2 12 rfl ?_
            simp only [pa]
            refine tk 3 13 rfl ?_
            simp only [pa]
            refine wpAnyH_ready (rs := [4]) (by kernel_rfl) (by simp) ?_
            refine AllReadyH.cons rfl (fun K hK => ?_) AllReadyH.nil
            go_simp
            go_wp2_with (first | (go_at_call 17; refine (HIn.out _).mono ?_; rintro e w4 ⟨rfl, rfl⟩))
            refine hK.out _ _ ?_ (fun hHeld => ?_)
            · try dsimp only
              exact HSx.out _ (hHeld.2.2)
            clear hK K
            refine tk 5 15 rfl ?_
            simp only [pa]
            refine tk 6 16 rfl ?_
            simp only [pa]
            refine tk 7 17 rfl ?_
            simp only [pa]
            refine tk 8 18 rfl ?_
            simp only [pa]
            refine tk 9 19 rfl ?_
            simp only [pa]
            refine tk 10 20 rfl ?_
            simp only [pa]
            refine tk 11 21 rfl ?_
            simp only [pa]
            refine tk 12 22 rfl ?_
            simp only [pa]
            refine tk 13 23 rfl ?_
            simp only [pa]
            refine tk 14 24 rfl ?_
            simp only [pa]
            refine tk 15 25 rfl ?_
            simp only [pa]
            refine tk 16 26 rfl ?_
            simp only [pa]
            refine tk 17 27 rfl ?_
            simp only [pa]
            refine tk 18 28 rfl ?_
            simp only [pa]
            refine tk 19 29 rfl ?_
            simp only [pa]
            refine tk 20 30 rfl ?_
            simp only [pa]
            refine tk 21 31 rfl ?_
            simp only [pa]
            have HE := hidP (hHeld.2.2)
            refine wpAnyH_done (by kernel_rfl) ?_ _
            clear hHeld
            go_wp2_with fail
            go_roundw
            case rel => exact ⟨k + 1, by omega, by go_num, by rw [HF.out, HNx.out], HQ.out, HBel.out.trans (HE.out.mono HBel.out.size)⟩
            case measure => simp [intOf]; omega
          · have e3 : decide (r < q) = false := decide_eq_false h3
            have e4 : decide (q ≤ r) = true := decide_eq_true (by omega)
            rw [e3] at HPo
            have HF : Hid (idsB 0 ps = false) := hidP (by rw [HPo.out]; rfl)
            clear HPo
            go_wp2_with fail
            have HSx : Hid (∀ x, Below wr.heap.size wr x → (x.cell? ⟨p, o + k, none⟩ = some (.int .i64 q) ∧ x.cell? ⟨p, o + J, none⟩ = some (.int .i64 r) ∧ Below wr.heap.size wr x)) := hidP fun x h =>
              ⟨(h.cell hpw).trans d0, (h.cell hpw).trans dJ, h⟩
            refine wp_region_held_drew (S := (fun x => x.cell? ⟨p, o + k, none⟩ = some (.int .i64 q) ∧ x.cell? ⟨p, o + J, none⟩ = some (.int .i64 r) ∧ Below wr.heap.size wr x)) (by kernel_rfl) ?_ (fun hHeld => ?_)
            · try dsimp only
              exact HSx.out _ ((Below.refl _ _).drew)
            refine tk 0 10 rfl ?_
            simp only [pa]
            refine tk 1 11 rfl ?_
            simp only [pa]
            refine tk 2 12 rfl ?_
            simp only [pa]
            refine tk 3 13 rfl ?_
            simp only [pa]
            refine wpAnyH_ready (rs := [4]) (by kernel_rfl) (by simp) ?_
            refine AllReadyH.cons rfl (fun K hK => ?_) AllReadyH.nil
            go_simp
            go_wp2_with (first | (go_at_call 17; refine (HIn.out _).mono ?_; rintro e w4 ⟨rfl, rfl⟩))
            refine hK.out _ _ ?_ (fun hHeld => ?_)
            · try dsimp only
              exact HSx.out _ (hHeld.2.2)
            clear hK K
            refine tk 5 15 rfl ?_
            simp only [pa]
            refine tk 6 16 rfl ?_
            simp only [pa]
            refine tk 7 17 rfl ?_
            simp only [pa]
            refine tk 8 18 rfl ?_
            simp only [pa]
            refine tk 9 19 rfl ?_
            simp only [pa]
            refine tk 10 20 rfl ?_
            simp only [pa]
            refine tk 11 21 rfl ?_
            simp only [pa]
            refine tk 12 22 rfl ?_
            simp only [pa]
            refine tk 13 23 rfl ?_
            simp only [pa]
            refine tk 14 24 rfl ?_
            simp only [pa]
            refine tk 15 25 rfl ?_
            simp only [pa]
            refine tk 16 26 rfl ?_
            simp only [pa]
            refine tk 17 27 rfl ?_
            simp only [pa]
            refine tk 18 28 rfl ?_
            simp only [pa]
            refine tk 19 29 rfl ?_
            simp only [pa]
            refine tk 20 30 rfl ?_
            simp only [pa]
            refine tk 21 31 rfl ?_
            simp only [pa]
            have HE := hidP (hHeld.2.2)
            refine wpAnyH_done (by kernel_rfl) ?_ _
            clear hHeld
            go_wp2_with fail
            go_ret
            exact ⟨retB HF.out.symm, HBel.out.trans (HE.out.mono HBel.out.size)⟩
      · have hv : (decide (1 ≤ q) && decide (q ≤ 7)) = false := by
          by_cases h2 : 1 ≤ q
          · simp [h2]; omega
          · simp [h2]
        rw [hv] at HIn
        have HF : Hid (idsB 0 ps = false) := hidP (by
          rw [HPo.out]
          by_cases h2 : q ≤ 7
          · rw [decide_eq_false (show ¬ prI ps k < q by omega)]; rfl
          · rw [decide_eq_false h2, Bool.and_false]; rfl)
        clear HPo hpr HPr h1
        go_wp2_with fail
        have HSx : Hid (∀ x, Below wr.heap.size wr x → (x.cell? ⟨p, o + k, none⟩ = some (.int .i64 q) ∧ Below wr.heap.size wr x)) := hidP fun x h =>
          ⟨(h.cell hpw).trans d0, h⟩
        refine wp_region_held_drew (S := (fun x => x.cell? ⟨p, o + k, none⟩ = some (.int .i64 q) ∧ Below wr.heap.size wr x)) (by kernel_rfl) ?_ (fun hHeld => ?_)
        · try dsimp only
          exact HSx.out _ ((Below.refl _ _).drew)
        refine tk 0 10 rfl ?_
        simp only [pa]
        refine tk 1 11 rfl ?_
        simp only [pa]
        refine tk 2 12 rfl ?_
        simp only [pa]
        refine tk 3 13 rfl ?_
        simp only [pa]
        refine wpAnyH_ready (rs := [4]) (by kernel_rfl) (by simp) ?_
        refine AllReadyH.cons rfl (fun K hK => ?_) AllReadyH.nil
        go_simp
        go_wp2_with (first | (go_at_call 17; refine (HIn.out _).mono ?_; rintro e w4 ⟨rfl, rfl⟩))
        refine hK.out _ _ ?_ (fun hHeld => ?_)
        · try dsimp only
          exact HSx.out _ (hHeld.2)
        clear hK K
        refine tk 5 15 rfl ?_
        simp only [pa]
        refine tk 6 16 rfl ?_
        simp only [pa]
        refine sk 7 17 rfl ?_
        simp only [pa]
        refine sk 8 18 rfl ?_
        simp only [pa]
        refine sk 9 19 rfl ?_
        simp only [pa]
        refine sk 10 20 rfl ?_
        simp only [pa]
        refine sk 11 21 rfl ?_
        simp only [pa]
        refine sk 12 22 rfl ?_
        simp only [pa]
        refine sk 13 23 rfl ?_
        simp only [pa]
        refine sk 14 24 rfl ?_
        simp only [pa]
        refine sk 15 25 rfl ?_
        simp only [pa]
        refine sk 16 26 rfl ?_
        simp only [pa]
        refine sk 17 27 rfl ?_
        simp only [pa]
        refine sk 18 28 rfl ?_
        simp only [pa]
        refine sk 19 29 rfl ?_
        simp only [pa]
        refine sk 20 30 rfl ?_
        simp only [pa]
        refine tk 21 31 rfl ?_
        simp only [pa]
        have HE := hidP (hHeld.2)
        refine wpAnyH_done (by kernel_rfl) ?_ _
        clear hHeld
        go_wp2_with fail
        go_ret
        exact ⟨retB HF.out.symm, HBel.out.trans (HE.out.mono HBel.out.size)⟩
    · have HF : Hid (idsB 0 ps = true) := by
        rw [List.drop_of_length_le (by have := HN.out; omega)] at hpo
        exact hidP hpo
      clear hpo hpr hbel
      go_wp2_with fail
      go_ret
      exact ⟨retB HF.out.symm, HBel.out⟩

end Go.Proofs.Ytmfbmnpfgbenmaa
