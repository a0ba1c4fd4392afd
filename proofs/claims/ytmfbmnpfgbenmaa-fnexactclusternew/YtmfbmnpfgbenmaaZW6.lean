/-
  The program's ownGroup and the specification's l12Copy: a group of the same numbers in rows of its own.
-/
import Derived.Test.YtmfbmnpfgbenmaaChecked
import GoSem.Claim
import GoSem.ClaimJoined
import GoSem.ClaimMapViews
import Derived.JoinedTies
import Derived.KernelRfl
import Derived.WalkKit
import Derived.WalkSpells
import Derived.WalkLawsBesides
import Derived.Deep.AppendSrc
import Derived.OwnWalk
import Derived.Deep.RegionWith
import Derived.Deep.DeepCutAuto
import Derived.Deep.QuietTactic
import Derived.BigQuiet
import Derived.Deep.AppendLies
import Derived.Carry
import Derived.Deep.Slices
import Derived.Deep.RegionHeld3
import Derived.ChangeMaps5
import Derived.Lib.SmallJoins
import Derived.Lib.SliceRun
import Derived.Test.YtmfbmnpfgbenmaaZW3
import Derived.Test.YtmfbmnpfgbenmaaZW1
namespace Go.Proofs.Ytmfbmnpfgbenmaa
open Go.RowKit

set_option maxRecDepth 10000 in
set_option maxHeartbeats 2000000 in
theorem ownGroup_any (ap : Option Addr) (np cp : Nat) (ab : Option Addr) (nb cb : Nat) (ps : List Int) (bs : List Int) (w : World) (hnp : np = ps.length) (hnb : nb = bs.length) (hP : RowG KI w ap ps) (hK : RowG KI w ab bs) (hl : np ≤ 1048576) (hl' : nb ≤ 1048576) :
    Calls Try.prog 22 #[.agg #[.slice ap np cp, .slice ab nb cb]] w fun e w' => ∃ a c b d, e = .returned (.agg #[.slice a np c, .slice b nb d]) ∧ OwnG KI 3 w' w.heap.size (.slice a np c) ps ∧ OwnG KI 3 w' w.heap.size (.slice b nb d) bs ∧ (∀ k, (Value.slice a np c).ownBlock = some k → (Value.slice b nb d).ownBlock ≠ some k) ∧ Below w.heap.size w w' := by
  have HCP := hidP (fun W h => cloneInt ap np cp ps W hnp (hP.later h) hl)
  have HCB := hidP (fun W h => cloneInt ab nb cb bs W hnb (hK.later h) hl')
  clear hP hK hnp hnb
  go_enter Try.func22, Try.ntmps22
  go_wp2_with fail
  obtain ⟨u0, u1⟩ := box2D w 25 (.slice ap np cp) (.slice ab nb cb)
  have uB := alloc_below w (.cells #[.slice ap np cp, .slice ab nb cb] 25)
  have uL := alloc_lt w (.cells #[.slice ap np cp, .slice ab nb cb] 25)
  have uS : (w.alloc (.cells #[.slice ap np cp, .slice ab nb cb] 25)).heap.size = w.heap.size + 1 := by simp
  generalize w.alloc (.cells #[.slice ap np cp, .slice ab nb cb] 25) = W1 at *
  have yF := frz2 W1 25 (.slice none 0 0) (.slice none 0 0)
  obtain ⟨y0, y1⟩ := box2D W1 25 (.slice none 0 0) (.slice none 0 0)
  have yB := alloc_below W1 (.cells #[.slice none 0 0, .slice none 0 0] 25)
  have yL := alloc_lt W1 (.cells #[.slice none 0 0, .slice none 0 0] 25)
  have yS : (W1.alloc (.cells #[.slice none 0 0, .slice none 0 0] 25)).heap.size = W1.heap.size + 1 := by simp
  generalize W1.alloc (.cells #[.slice none 0 0, .slice none 0 0] 25) = W2 at *
  rw [uS] at y0 y1 yL yS
  rw [uS] at yF
  have HU := hidP uB
  have HY := hidP yB.drew
  have hs1 : W1.heap.size = w.heap.size + 1 := uS
  have hs2 : W2.heap.size = w.heap.size + 1 + 1 := yS
  have HS12 := hidP (And.intro hs1 hs2)
  clear uB yB uS yS hs1 hs2
  have HSx : Hid (∀ x, Below W1.heap.size W1 x → (x.cell? ⟨w.heap.size, 0, none⟩ = some (.slice ap np cp) ∧ x.cell? ⟨w.heap.size, 1, none⟩ = some (.slice ab nb cb) ∧ Below W1.heap.size W1 x)) := hidP fun x h =>
    ⟨(h.cell uL).trans u0, (h.cell uL).trans u1, h⟩
  refine wp_region_held_drew (S := (fun x => x.cell? ⟨w.heap.size, 0, none⟩ = some (.slice ap np cp) ∧ x.cell? ⟨w.heap.size, 1, none⟩ = some (.slice ab nb cb) ∧ Below W1.heap.size W1 x)) (by kernel_rfl) ?_ (fun hHeld => ?_)
  · try dsimp only
    exact HSx.out _ (HY.out)
  refine tk 0 3 rfl ?_
  simp only [pa]
  refine tk 1 4 rfl ?_
  simp only [pa]
  refine tk 3 6 rfl ?_
  simp only [pa]
  refine tk 4 7 rfl ?_
  simp only [pa]
  refine wpAnyH_ready (rs := [2]) (by kernel_rfl) (by simp) ?_
  refine AllReadyH.cons rfl (fun K hK => ?_) AllReadyH.nil
  go_simp
  go_wp2_with (first | (go_at_call 63; refine (HCP.out _ (HU.out.trans ((hHeld.2.2).mono HU.out.size))).mono ?_; rintro e w3 ⟨a3, c3, rfl, og3, hb3⟩; have b3 := (hHeld.2.2).trans (hb3.mono (hHeld.2.2).size)))
  refine hK.out _ _ ?_ (fun hHeld => ?_)
  · try dsimp only
    exact HSx.out _ b3
  clear hK K
  refine wpAnyH_ready (rs := [5]) (by kernel_rfl) (by simp) ?_
  refine AllReadyH.cons rfl (fun K hK => ?_) AllReadyH.nil
  go_simp
  go_wp2_with (first | (go_at_call 63; refine (HCB.out _ (HU.out.trans ((hHeld.2.2).mono HU.out.size))).mono ?_; rintro e w4 ⟨a4, c4, rfl, oh4, hb4⟩; have b4 := (hHeld.2.2).trans (hb4.mono (hHeld.2.2).size)))
  refine hK.out _ _ ?_ (fun hHeld => ?_)
  · try dsimp only
    exact HSx.out _ b4
  clear hK K
  refine tk 6 9 rfl ?_
  simp only [pa]
  have HO3 := hidP (og3.later (show Below w3.heap.size w3 w4 from hb4))
  have HO4 := hidP oh4
  have l3 := fun k hk => OwnG.lt og3 k hk
  have l4 := fun k hk => OwnG.lt oh4 k hk
  have z34 : w.heap.size + 1 < w3.heap.size := Nat.lt_of_lt_of_le yL hb3.size
  have r0 := (hb4.cell z34).trans ((hb3.cell yL).trans y0)
  have r1 := (hb4.cell z34).trans ((hb3.cell yL).trans y1)
  have rF : ∀ o, w4.frozen? ⟨w.heap.size + 1, o, none⟩ = false := fun o => (hb4.frozen z34).trans ((hb3.frozen yL).trans (yF o))
  have LL := hidP (And.intro l3 (And.intro l4 (And.intro hb3.size hb4.size)))
  clear l3 l4
  refine wpAnyH_ready (rs := [7]) (by kernel_rfl) (by simp) ?_
  refine AllReadyH.cons rfl (fun K hK => ?_) AllReadyH.nil
  go_simp
  refine hK.out _ _ ?_ (fun hHeld => ?_)
  · try dsimp only
    refine HSx.out _ ?_
    repeat (with_reducible refine Below.setCell ?_ ?_ _; rotate_left; (focus (have := HS12.out; simp; omega)))
    exact hHeld.2.2
  clear hK K
  have HE := hidP (hHeld.2.2)
  refine wpAnyH_done (by kernel_rfl) ?_ _
  clear hHeld
  go_wp2_with fail
  refine bodyPost_ret (v := .agg #[.slice a3 np c3, .slice a4 nb c4]) (by simp [results, Try.results22, go_sem, r0, r1]) rfl ⟨a3, c3, a4, c4, rfl, ?_, ?_, ?_, ?_⟩
  · have o1 := OwnG.grown HO3.out (grown_cellG w4 (w.heap.size + 1) 0 (.slice a3 np c3)) (fun k hk e => by have h5 : W2.heap.size ≤ k := (LL.out.1 k hk).1; have h6 := HS12.out; simp at e; omega)
    have o2 := OwnG.grown o1 (grown_cellG _ (w.heap.size + 1) 1 (.slice a4 nb c4)) (fun k hk e => by have h5 : W2.heap.size ≤ k := (LL.out.1 k hk).1; have h6 := HS12.out; simp at e; omega)
    exact o2.mono (show w.heap.size ≤ W2.heap.size by have := HS12.out; omega)
  · have o1 := OwnG.grown HO4.out (grown_cellG w4 (w.heap.size + 1) 0 (.slice a3 np c3)) (fun k hk e => by have h5 : w3.heap.size ≤ k := (LL.out.2.1 k hk).1; have h7 : W2.heap.size ≤ w3.heap.size := LL.out.2.2.1; have h6 := HS12.out; simp at e; omega)
    have o2 := OwnG.grown o1 (grown_cellG _ (w.heap.size + 1) 1 (.slice a4 nb c4)) (fun k hk e => by have h5 : w3.heap.size ≤ k := (LL.out.2.1 k hk).1; have h7 : W2.heap.size ≤ w3.heap.size := LL.out.2.2.1; have h6 := HS12.out; simp at e; omega)
    exact o2.mono (show w.heap.size ≤ w3.heap.size by have h7 : W2.heap.size ≤ w3.heap.size := LL.out.2.2.1; have := HS12.out; omega)
  · intro k h1 h2
    have l1 := LL.out.1 k h1
    have l2 := LL.out.2.1 k h2
    omega
  · exact HU.out.trans (HE.out.mono HU.out.size)

set_option maxRecDepth 10000 in
set_option maxHeartbeats 4000000 in
theorem l12Copy_any (ap : Option Addr) (np cp : Nat) (ab : Option Addr) (nb cb : Nat) (ps : List Int) (bs : List Int) (w : World) (hnp : np = ps.length) (hnb : nb = bs.length) (hP : RowG KI w ap ps) (hK : RowG KI w ab bs) (hcp : ap = none → cp = 0) (hcb : ab = none → cb = 0) (hl : np ≤ 1048576) (hl' : nb ≤ 1048576) :
    Calls Try.prog 62 #[.agg #[.slice ap np cp, .slice ab nb cb]] w fun e w' => ∃ a c b d, e = .returned (.agg #[.slice a np c, .slice b nb d]) ∧ OwnG KI 3 w' w.heap.size (.slice a np c) ps ∧ OwnG KI 3 w' w.heap.size (.slice b nb d) bs ∧ (∀ k, (Value.slice a np c).ownBlock = some k → (Value.slice b nb d).ownBlock ≠ some k) ∧ Below w.heap.size w w' := by
  have HR := hidP (And.intro hP hK)
  have HN := hidP (And.intro hnp hnb)
  have HC := hidP (And.intro hcp hcb)
  clear hP hK hnp hnb hcp hcb
  go_enter Try.func62, Try.ntmps62
  go_wp2_with fail
  obtain ⟨u0, u1⟩ := box2D w 25 (.slice ap np cp) (.slice ab nb cb)
  have uB := alloc_below w (.cells #[.slice ap np cp, .slice ab nb cb] 25)
  have uL := alloc_lt w (.cells #[.slice ap np cp, .slice ab nb cb] 25)
  have uS : (w.alloc (.cells #[.slice ap np cp, .slice ab nb cb] 25)).heap.size = w.heap.size + 1 := by simp
  generalize w.alloc (.cells #[.slice ap np cp, .slice ab nb cb] 25) = W1 at *
  have yF := frz2 W1 25 (.slice none 0 0) (.slice none 0 0)
  obtain ⟨y0, y1⟩ := box2D W1 25 (.slice none 0 0) (.slice none 0 0)
  have yB := alloc_below W1 (.cells #[.slice none 0 0, .slice none 0 0] 25)
  have yL := alloc_lt W1 (.cells #[.slice none 0 0, .slice none 0 0] 25)
  have yS : (W1.alloc (.cells #[.slice none 0 0, .slice none 0 0] 25)).heap.size = W1.heap.size + 1 := by simp
  generalize W1.alloc (.cells #[.slice none 0 0, .slice none 0 0] 25) = W2 at *
  rw [uS] at y0 y1 yL yS
  rw [uS] at yF
  have HU := hidP uB
  have HY := hidP yB
  have hs1 : W1.heap.size = w.heap.size + 1 := uS
  have hs2 : W2.heap.size = w.heap.size + 1 + 1 := yS
  have HS12 := hidP (And.intro hs1 hs2)
  clear uB yB uS yS hs1 hs2
  have HSx : Hid (∀ x, Below W1.heap.size W1 x → (x.cell? ⟨w.heap.size, 0, none⟩ = some (.slice ap np cp) ∧ x.cell? ⟨w.heap.size, 1, none⟩ = some (.slice ab nb cb) ∧ Below W1.heap.size W1 x)) := hidP fun x h =>
    ⟨(h.cell uL).trans u0, (h.cell uL).trans u1, h⟩
  refine wp_region_held_drew (S := (fun x => x.cell? ⟨w.heap.size, 0, none⟩ = some (.slice ap np cp) ∧ x.cell? ⟨w.heap.size, 1, none⟩ = some (.slice ab nb cb) ∧ Below W1.heap.size W1 x)) (by kernel_rfl) ?_ (fun hHeld => ?_)
  · try dsimp only
    exact HSx.out _ HY.out.drew
  refine tk 1 4 rfl ?_
  simp only [pa]
  refine tk 2 5 rfl ?_
  simp only [pa]
  refine tk 5 8 rfl ?_
  simp only [pa]
  refine tk 6 9 rfl ?_
  simp only [pa]
  refine wpAnyH_ready (rs := [0, 4]) (by kernel_rfl) (by simp) ?_
  refine AllReadyH.cons rfl (fun K hK => ?_) (AllReadyH.cons rfl (fun K hK => ?_) AllReadyH.nil)
  · go_simp
    have z3 := own_zeroG KI W2 W2.heap.size 3 (Nat.le_refl _)
    have zb3 := alloc_below W2 (.cells #[] 3)
    have zs3 : W2.heap.size + 1 ≤ (W2.alloc (.cells #[] 3)).heap.size := by simp
    have z3 := OwnG.drewG z3
    have zb3 := zb3.drew
    have zs3 : W2.heap.size + 1 ≤ (W2.alloc (.cells #[] 3)).drew.heap.size := zs3
    have bel3 := HY.out.trans (zb3.mono HY.out.size)
    generalize (W2.alloc (.cells #[] 3)).drew = w3 at *
    have wb3 := zb3
    refine hK.out _ _ ?_ (fun hHeld => ?_)
    · try dsimp only
      exact HSx.out _ bel3
    clear hK K
    refine wpAnyH_ready (rs := [3, 4]) (by kernel_rfl) (by simp) ?_
    refine AllReadyH.cons rfl (fun K hK => ?_) (AllReadyH.cons rfl (fun K hK => ?_) AllReadyH.nil)
    · have hbs4 : W2.heap.size ≤ w3.heap.size := by omega
      refine step_appG Try.tyI _ rfl (.tmp 3) (.tmp 5) 22 rfl (W2.heap.size) (some ⟨W2.heap.size, 0, none⟩) 0 0 np [] ps (.slice ap np cp) rfl rfl HN.out.1 z3 rfl (src_rowG Try.tyI.1 np cp (by show 0 < 1; omega) HN.out.1 (HR.out.1.later (HU.out.trans (bel3.mono HU.out.size))) HC.out.1) (by omega) hbs4 ?_
      intro a4 c4 w4 ho4 hg4 ht4
      have zs4 := hg4.size
      have bel4 := Below.grown bel3 hg4 bel3.size (fun j hj => by rw [ob_some, Option.some.injEq] at hj; have := HS12.out; omega)
      rw [Nat.zero_add, List.nil_append] at ho4
      have lt4 := fun j hj => (OwnG.lt ho4 j hj).2
      have wb4 := Below.grown wb3 hg4 wb3.size (fun j hj => by rw [ob_some, Option.some.injEq] at hj; omega)
      refine hK.out _ _ ?_ (fun hHeld => ?_)
      · try dsimp only
        exact HSx.out _ bel4
      clear hK K
      refine wpAnyH_ready (rs := [4]) (by kernel_rfl) (by simp) ?_
      refine AllReadyH.cons rfl (fun K hK => ?_) AllReadyH.nil
      go_simp
      have z5 := own_zeroG KI w4 w4.heap.size 3 (Nat.le_refl _)
      have zb5 := alloc_below w4 (.cells #[] 3)
      have zs5 : w4.heap.size + 1 ≤ (w4.alloc (.cells #[] 3)).heap.size := by simp
      have bel5 := bel4.trans (zb5.mono bel4.size)
      generalize w4.alloc (.cells #[] 3) = w5 at *
      have oP5 := OwnG.later ho4 zb5
      have wb5 := wb4.trans (zb5.mono wb4.size)
      refine hK.out _ _ ?_ (fun hHeld => ?_)
      · try dsimp only
        exact HSx.out _ bel5
      clear hK K
      refine wpAnyH_ready (rs := [7]) (by kernel_rfl) (by simp) ?_
      refine AllReadyH.cons rfl (fun K hK => ?_) AllReadyH.nil
      have hbs6 : w4.heap.size ≤ w5.heap.size := by omega
      refine step_appG Try.tyI _ rfl (.tmp 7) (.tmp 9) 22 rfl (w4.heap.size) (some ⟨w4.heap.size, 0, none⟩) 0 0 nb [] bs (.slice ab nb cb) rfl rfl HN.out.2 z5 rfl (src_rowG Try.tyI.1 nb cb (by show 0 < 1; omega) HN.out.2 (HR.out.2.later (HU.out.trans (bel5.mono HU.out.size))) HC.out.2) (by omega) hbs6 ?_
      intro a6 c6 w6 ho6 hg6 ht6
      have zs6 := hg6.size
      have bel6 := Below.grown bel5 hg6 bel5.size (fun j hj => by rw [ob_some, Option.some.injEq] at hj; have := HS12.out; omega)
      have oP6 := OwnG.grown oP5 hg6 (fun j hj he => by have h7 := lt4 j hj; rw [ob_some, Option.some.injEq] at he; rcases ht4 with rfl | rfl <;> rw [ob_some, Option.some.injEq] at hj <;> omega)
      rw [Nat.zero_add, List.nil_append] at ho6
      have lt6 := fun j hj => (OwnG.lt ho6 j hj).2
      have wb6 := Below.grown wb5 hg6 wb5.size (fun j hj => by rw [ob_some, Option.some.injEq] at hj; omega)
      refine hK.out _ _ ?_ (fun hHeld => ?_)
      · try dsimp only
        exact HSx.out _ bel6
      clear hK K
      refine tk 8 11 rfl ?_
      simp only [Act.put, List.setIfInBounds_toArray]
      refine wpAnyH_ready (rs := [9]) (by kernel_rfl) (by simp) ?_
      refine AllReadyH.cons rfl (fun K hK => ?_) AllReadyH.nil
      have zz : w.heap.size + 1 < w6.heap.size := by have := HS12.out; omega
      have r0 := (wb6.cell yL).trans y0
      have r1 := (wb6.cell yL).trans y1
      have rF : ∀ o, w6.frozen? ⟨w.heap.size + 1, o, none⟩ = false := fun o => (wb6.frozen yL).trans (yF o)
      go_simp
      refine hK.out _ _ ?_ (fun hHeld => ?_)
      · try dsimp only
        refine HSx.out _ ?_
        repeat (with_reducible refine Below.setCell ?_ ?_ _; rotate_left; (focus (have := HS12.out; simp; omega)))
        exact bel6
      clear hK K
      refine wpAnyH_done (by kernel_rfl) ?_ _
      clear hHeld
      go_wp2_with fail
      refine bodyPost_ret (v := .agg #[.slice a4 np c4, .slice a6 nb c6]) (by simp [results, Try.results62, go_sem, r0, r1]) rfl ⟨a4, c4, a6, c6, rfl, ?_, ?_, ?_, ?_⟩
      · have o1 := OwnG.grown oP6 (grown_cellG w6 (w.heap.size + 1) 0 (.slice a4 np c4)) (fun k hk e => by have h5 := (OwnG.lt oP6 k hk).1; have h6 := HS12.out; simp at e; omega)
        have o2 := OwnG.grown o1 (grown_cellG _ (w.heap.size + 1) 1 (.slice a6 nb c6)) (fun k hk e => by have h5 := (OwnG.lt oP6 k hk).1; have h6 := HS12.out; simp at e; omega)
        exact o2.mono (by have := HS12.out; omega)
      · have o1 := OwnG.grown ho6 (grown_cellG w6 (w.heap.size + 1) 0 (.slice a4 np c4)) (fun k hk e => by have h5 := (OwnG.lt ho6 k hk).1; have h6 := HS12.out; simp at e; omega)
        have o2 := OwnG.grown o1 (grown_cellG _ (w.heap.size + 1) 1 (.slice a6 nb c6)) (fun k hk e => by have h5 := (OwnG.lt ho6 k hk).1; have h6 := HS12.out; simp at e; omega)
        exact o2.mono (by have := HS12.out; omega)
      · intro k h1 h2
        have h7 := lt4 k h1
        have h8 := lt6 k h2
        rcases ht4 with rfl | rfl <;> rcases ht6 with rfl | rfl <;> rw [ob_some, Option.some.injEq] at h1 h2 <;> omega
      · refine HU.out.trans (Below.mono ?_ HU.out.size)
        repeat (with_reducible refine Below.setCell ?_ ?_ _; rotate_left; (focus (have := HS12.out; simp; omega)))
        exact bel6
    · go_simp
      have z4 := own_zeroG KI w3 w3.heap.size 3 (Nat.le_refl _)
      have zb4 := alloc_below w3 (.cells #[] 3)
      have zs4 : w3.heap.size + 1 ≤ (w3.alloc (.cells #[] 3)).heap.size := by simp
      have bel4 := bel3.trans (zb4.mono bel3.size)
      generalize w3.alloc (.cells #[] 3) = w4 at *
      have oP4 := OwnG.later z3 zb4
      have wb4 := wb3.trans (zb4.mono wb3.size)
      refine hK.out _ _ ?_ (fun hHeld => ?_)
      · try dsimp only
        exact HSx.out _ bel4
      clear hK K
      refine wpAnyH_ready (rs := [3]) (by kernel_rfl) (by simp) ?_
      refine AllReadyH.cons rfl (fun K hK => ?_) AllReadyH.nil
      have hbs5 : W2.heap.size ≤ w4.heap.size := by omega
      refine step_appG Try.tyI _ rfl (.tmp 3) (.tmp 5) 22 rfl (W2.heap.size) (some ⟨W2.heap.size, 0, none⟩) 0 0 np [] ps (.slice ap np cp) rfl rfl HN.out.1 oP4 rfl (src_rowG Try.tyI.1 np cp (by show 0 < 1; omega) HN.out.1 (HR.out.1.later (HU.out.trans (bel4.mono HU.out.size))) HC.out.1) (by omega) hbs5 ?_
      intro a5 c5 w5 ho5 hg5 ht5
      have zs5 := hg5.size
      have bel5 := Below.grown bel4 hg5 bel4.size (fun j hj => by rw [ob_some, Option.some.injEq] at hj; have := HS12.out; omega)
      have oB5 := OwnG.grown z4 hg5 (fun j hj he => by rw [ob_some, Option.some.injEq] at hj he; omega)
      rw [Nat.zero_add, List.nil_append] at ho5
      have lt5 := fun j hj => (OwnG.lt ho5 j hj).2
      have wb5 := Below.grown wb4 hg5 wb4.size (fun j hj => by rw [ob_some, Option.some.injEq] at hj; omega)
      refine hK.out _ _ ?_ (fun hHeld => ?_)
      · try dsimp only
        exact HSx.out _ bel5
      clear hK K
      refine wpAnyH_ready (rs := [7]) (by kernel_rfl) (by simp) ?_
      refine AllReadyH.cons rfl (fun K hK => ?_) AllReadyH.nil
      have hbs6 : w3.heap.size ≤ w5.heap.size := by omega
      refine step_appG Try.tyI _ rfl (.tmp 7) (.tmp 9) 22 rfl (w3.heap.size) (some ⟨w3.heap.size, 0, none⟩) 0 0 nb [] bs (.slice ab nb cb) rfl rfl HN.out.2 oB5 rfl (src_rowG Try.tyI.1 nb cb (by show 0 < 1; omega) HN.out.2 (HR.out.2.later (HU.out.trans (bel5.mono HU.out.size))) HC.out.2) (by omega) hbs6 ?_
      intro a6 c6 w6 ho6 hg6 ht6
      have zs6 := hg6.size
      have bel6 := Below.grown bel5 hg6 bel5.size (fun j hj => by rw [ob_some, Option.some.injEq] at hj; have := HS12.out; omega)
      have oP6 := OwnG.grown ho5 hg6 (fun j hj he => by have h7 := lt5 j hj; rw [ob_some, Option.some.injEq] at he; rcases ht5 with rfl | rfl <;> rw [ob_some, Option.some.injEq] at hj <;> omega)
      rw [Nat.zero_add, List.nil_append] at ho6
      have lt6 := fun j hj => (OwnG.lt ho6 j hj).2
      have wb6 := Below.grown wb5 hg6 wb5.size (fun j hj => by rw [ob_some, Option.some.injEq] at hj; omega)
      refine hK.out _ _ ?_ (fun hHeld => ?_)
      · try dsimp only
        exact HSx.out _ bel6
      clear hK K
      refine tk 8 11 rfl ?_
      simp only [Act.put, List.setIfInBounds_toArray]
      refine wpAnyH_ready (rs := [9]) (by kernel_rfl) (by simp) ?_
      refine AllReadyH.cons rfl (fun K hK => ?_) AllReadyH.nil
      have zz : w.heap.size + 1 < w6.heap.size := by have := HS12.out; omega
      have r0 := (wb6.cell yL).trans y0
      have r1 := (wb6.cell yL).trans y1
      have rF : ∀ o, w6.frozen? ⟨w.heap.size + 1, o, none⟩ = false := fun o => (wb6.frozen yL).trans (yF o)
      go_simp
      refine hK.out _ _ ?_ (fun hHeld => ?_)
      · try dsimp only
        refine HSx.out _ ?_
        repeat (with_reducible refine Below.setCell ?_ ?_ _; rotate_left; (focus (have := HS12.out; simp; omega)))
        exact bel6
      clear hK K
      refine wpAnyH_done (by kernel_rfl) ?_ _
      clear hHeld
      go_wp2_with fail
      refine bodyPost_ret (v := .agg #[.slice a5 np c5, .slice a6 nb c6]) (by simp [results, Try.results62, go_sem, r0, r1]) rfl ⟨a5, c5, a6, c6, rfl, ?_, ?_, ?_, ?_⟩
      · have o1 := OwnG.grown oP6 (grown_cellG w6 (w.heap.size + 1) 0 (.slice a5 np c5)) (fun k hk e => by have h5 := (OwnG.lt oP6 k hk).1; have h6 := HS12.out; simp at e; omega)
        have o2 := OwnG.grown o1 (grown_cellG _ (w.heap.size + 1) 1 (.slice a6 nb c6)) (fun k hk e => by have h5 := (OwnG.lt oP6 k hk).1; have h6 := HS12.out; simp at e; omega)
        exact o2.mono (by have := HS12.out; omega)
      · have o1 := OwnG.grown ho6 (grown_cellG w6 (w.heap.size + 1) 0 (.slice a5 np c5)) (fun k hk e => by have h5 := (OwnG.lt ho6 k hk).1; have h6 := HS12.out; simp at e; omega)
        have o2 := OwnG.grown o1 (grown_cellG _ (w.heap.size + 1) 1 (.slice a6 nb c6)) (fun k hk e => by have h5 := (OwnG.lt ho6 k hk).1; have h6 := HS12.out; simp at e; omega)
        exact o2.mono (by have := HS12.out; omega)
      · intro k h1 h2
        have h7 := lt5 k h1
        have h8 := lt6 k h2
        rcases ht5 with rfl | rfl <;> rcases ht6 with rfl | rfl <;> rw [ob_some, Option.some.injEq] at h1 h2 <;> omega
      · refine HU.out.trans (Below.mono ?_ HU.out.size)
        repeat (with_reducible refine Below.setCell ?_ ?_ _; rotate_left; (focus (have := HS12.out; simp; omega)))
        exact bel6
  · go_simp
    have z3 := own_zeroG KI W2 W2.heap.size 3 (Nat.le_refl _)
    have zb3 := alloc_below W2 (.cells #[] 3)
    have zs3 : W2.heap.size + 1 ≤ (W2.alloc (.cells #[] 3)).heap.size := by simp
    have z3 := OwnG.drewG z3
    have zb3 := zb3.drew
    have zs3 : W2.heap.size + 1 ≤ (W2.alloc (.cells #[] 3)).drew.heap.size := zs3
    have bel3 := HY.out.trans (zb3.mono HY.out.size)
    generalize (W2.alloc (.cells #[] 3)).drew = w3 at *
    have wb3 := zb3
    refine hK.out _ _ ?_ (fun hHeld => ?_)
    · try dsimp only
      exact HSx.out _ bel3
    clear hK K
    refine wpAnyH_ready (rs := [0]) (by kernel_rfl) (by simp) ?_
    refine AllReadyH.cons rfl (fun K hK => ?_) AllReadyH.nil
    go_simp
    have z4 := own_zeroG KI w3 w3.heap.size 3 (Nat.le_refl _)
    have zb4 := alloc_below w3 (.cells #[] 3)
    have zs4 : w3.heap.size + 1 ≤ (w3.alloc (.cells #[] 3)).heap.size := by simp
    have bel4 := bel3.trans (zb4.mono bel3.size)
    generalize w3.alloc (.cells #[] 3) = w4 at *
    have oB4 := OwnG.later z3 zb4
    have wb4 := wb3.trans (zb4.mono wb3.size)
    refine hK.out _ _ ?_ (fun hHeld => ?_)
    · try dsimp only
      exact HSx.out _ bel4
    clear hK K
    refine wpAnyH_ready (rs := [3]) (by kernel_rfl) (by simp) ?_
    refine AllReadyH.cons rfl (fun K hK => ?_) AllReadyH.nil
    have hbs5 : w3.heap.size ≤ w4.heap.size := by omega
    refine step_appG Try.tyI _ rfl (.tmp 3) (.tmp 5) 22 rfl (w3.heap.size) (some ⟨w3.heap.size, 0, none⟩) 0 0 np [] ps (.slice ap np cp) rfl rfl HN.out.1 z4 rfl (src_rowG Try.tyI.1 np cp (by show 0 < 1; omega) HN.out.1 (HR.out.1.later (HU.out.trans (bel4.mono HU.out.size))) HC.out.1) (by omega) hbs5 ?_
    intro a5 c5 w5 ho5 hg5 ht5
    have zs5 := hg5.size
    have bel5 := Below.grown bel4 hg5 bel4.size (fun j hj => by rw [ob_some, Option.some.injEq] at hj; have := HS12.out; omega)
    have oB5 := OwnG.grown oB4 hg5 (fun j hj he => by rw [ob_some, Option.some.injEq] at hj he; omega)
    rw [Nat.zero_add, List.nil_append] at ho5
    have lt5 := fun j hj => (OwnG.lt ho5 j hj).2
    have wb5 := Below.grown wb4 hg5 wb4.size (fun j hj => by rw [ob_some, Option.some.injEq] at hj; omega)
    refine hK.out _ _ ?_ (fun hHeld => ?_)
    · try dsimp only
      exact HSx.out _ bel5
    clear hK K
    refine wpAnyH_ready (rs := [7]) (by kernel_rfl) (by simp) ?_
    refine AllReadyH.cons rfl (fun K hK => ?_) AllReadyH.nil
    have hbs6 : W2.heap.size ≤ w5.heap.size := by omega
    refine step_appG Try.tyI _ rfl (.tmp 7) (.tmp 9) 22 rfl (W2.heap.size) (some ⟨W2.heap.size, 0, none⟩) 0 0 nb [] bs (.slice ab nb cb) rfl rfl HN.out.2 oB5 rfl (src_rowG Try.tyI.1 nb cb (by show 0 < 1; omega) HN.out.2 (HR.out.2.later (HU.out.trans (bel5.mono HU.out.size))) HC.out.2) (by omega) hbs6 ?_
    intro a6 c6 w6 ho6 hg6 ht6
    have zs6 := hg6.size
    have bel6 := Below.grown bel5 hg6 bel5.size (fun j hj => by rw [ob_some, Option.some.injEq] at hj; have := HS12.out; omega)
    have oP6 := OwnG.grown ho5 hg6 (fun j hj he => by have h7 := lt5 j hj; rw [ob_some, Option.some.injEq] at he; rcases ht5 with rfl | rfl <;> rw [ob_some, Option.some.injEq] at hj <;> omega)
    rw [Nat.zero_add, List.nil_append] at ho6
    have lt6 := fun j hj => (OwnG.lt ho6 j hj).2
    have wb6 := Below.grown wb5 hg6 wb5.size (fun j hj => by rw [ob_some, Option.some.injEq] at hj; omega)
    refine hK.out _ _ ?_ (fun hHeld => ?_)
    · try dsimp only
      exact HSx.out _ bel6
    clear hK K
    refine tk 8 11 rfl ?_
    simp only [Act.put, List.setIfInBounds_toArray]
    refine wpAnyH_ready (rs := [9]) (by kernel_rfl) (by simp) ?_
    refine AllReadyH.cons rfl (fun K hK => ?_) AllReadyH.nil
    have zz : w.heap.size + 1 < w6.heap.size := by have := HS12.out; omega
    have r0 := (wb6.cell yL).trans y0
    have r1 := (wb6.cell yL).trans y1
    have rF : ∀ o, w6.frozen? ⟨w.heap.size + 1, o, none⟩ = false := fun o => (wb6.frozen yL).trans (yF o)
    go_simp
    refine hK.out _ _ ?_ (fun hHeld => ?_)
    · try dsimp only
      refine HSx.out _ ?_
      repeat (with_reducible refine Below.setCell ?_ ?_ _; rotate_left; (focus (have := HS12.out; simp; omega)))
      exact bel6
    clear hK K
    refine wpAnyH_done (by kernel_rfl) ?_ _
    clear hHeld
    go_wp2_with fail
    refine bodyPost_ret (v := .agg #[.slice a5 np c5, .slice a6 nb c6]) (by simp [results, Try.results62, go_sem, r0, r1]) rfl ⟨a5, c5, a6, c6, rfl, ?_, ?_, ?_, ?_⟩
    · have o1 := OwnG.grown oP6 (grown_cellG w6 (w.heap.size + 1) 0 (.slice a5 np c5)) (fun k hk e => by have h5 := (OwnG.lt oP6 k hk).1; have h6 := HS12.out; simp at e; omega)
      have o2 := OwnG.grown o1 (grown_cellG _ (w.heap.size + 1) 1 (.slice a6 nb c6)) (fun k hk e => by have h5 := (OwnG.lt oP6 k hk).1; have h6 := HS12.out; simp at e; omega)
      exact o2.mono (by have := HS12.out; omega)
    · have o1 := OwnG.grown ho6 (grown_cellG w6 (w.heap.size + 1) 0 (.slice a5 np c5)) (fun k hk e => by have h5 := (OwnG.lt ho6 k hk).1; have h6 := HS12.out; simp at e; omega)
      have o2 := OwnG.grown o1 (grown_cellG _ (w.heap.size + 1) 1 (.slice a6 nb c6)) (fun k hk e => by have h5 := (OwnG.lt ho6 k hk).1; have h6 := HS12.out; simp at e; omega)
      exact o2.mono (by have := HS12.out; omega)
    · intro k h1 h2
      have h7 := lt5 k h1
      have h8 := lt6 k h2
      rcases ht5 with rfl | rfl <;> rcases ht6 with rfl | rfl <;> rw [ob_some, Option.some.injEq] at h1 h2 <;> omega
    · refine HU.out.trans (Below.mono ?_ HU.out.size)
      repeat (with_reducible refine Below.setCell ?_ ?_ _; rotate_left; (focus (have := HS12.out; simp; omega)))
      exact bel6

end Go.Proofs.Ytmfbmnpfgbenmaa
