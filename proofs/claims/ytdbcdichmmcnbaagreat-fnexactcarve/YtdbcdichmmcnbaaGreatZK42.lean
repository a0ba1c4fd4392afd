/-
  The program's ownPlan: a plan of the same things in rows of its own.
-/
import Derived.Test.YtdbcdichmmcnbaaGreatZK40
import Derived.Test.YtdbcdichmmcnbaaGreatZK41
import Derived.Test.YtdbcdichmmcnbaaGreatZK1
namespace Go.Proofs.YtdbcdichmmcnbaaGreat
open Go.RowKit

theorem frz2 (w : World) (t : TypeId) (u v : Value) (o : Nat) : (w.alloc (.cells #[u, v] t)).frozen? ⟨w.heap.size, o, none⟩ = false := by simp [go_sem]

set_option maxRecDepth 10000 in
set_option maxHeartbeats 2000000 in
theorem ownPlan_any (ap : Option Addr) (np cp : Nat) (ab : Option Addr) (nb cb : Nat) (ps : List Pl) (bs : List Bk) (w : World) (hnp : np = ps.length) (hnb : nb = bs.length) (hP : RowG KPl w ap ps) (hK : RowG KBk w ab bs) (hl : np ≤ 1048576) (hl' : nb ≤ 1048576) :
    Calls Tryz.prog 32 #[.agg #[.slice ap np cp, .slice ab nb cb]] w fun e w' => ∃ a c b d, e = .returned (.agg #[.slice a np c, .slice b nb d]) ∧ OwnG KPl 46 w' w.heap.size (.slice a np c) ps ∧ OwnG KBk 38 w' w.heap.size (.slice b nb d) bs ∧ (∀ k, (Value.slice a np c).ownBlock = some k → (Value.slice b nb d).ownBlock ≠ some k) ∧ Below w.heap.size w w' := by
  have HCP := hidP (fun W h => clonePool ap np cp ps W hnp (hP.later h) hl)
  have HCB := hidP (fun W h => cloneBlock ab nb cb bs W hnb (hK.later h) hl')
  clear hP hK hnp hnb
  go_enter Tryz.func32, Tryz.ntmps32
  go_wp2_with fail
  obtain ⟨u0, u1⟩ := box2 (u := .slice ap np cp) (v := .slice ab nb cb) w 27
  have uB := alloc_below w (.cells #[.slice ap np cp, .slice ab nb cb] 27)
  have uL := alloc_lt w (.cells #[.slice ap np cp, .slice ab nb cb] 27)
  have uS : (w.alloc (.cells #[.slice ap np cp, .slice ab nb cb] 27)).heap.size = w.heap.size + 1 := by simp
  generalize w.alloc (.cells #[.slice ap np cp, .slice ab nb cb] 27) = W1 at *
  have yF := frz2 W1 27 (.slice none 0 0) (.slice none 0 0)
  obtain ⟨y0, y1⟩ := box2 (u := .slice none 0 0) (v := .slice none 0 0) W1 27
  have yB := alloc_below W1 (.cells #[.slice none 0 0, .slice none 0 0] 27)
  have yL := alloc_lt W1 (.cells #[.slice none 0 0, .slice none 0 0] 27)
  have yS : (W1.alloc (.cells #[.slice none 0 0, .slice none 0 0] 27)).heap.size = W1.heap.size + 1 := by simp
  generalize W1.alloc (.cells #[.slice none 0 0, .slice none 0 0] 27) = W2 at *
  rw [uS] at y0 y1 yL yS
  rw [uS] at yF
  have HU := hidP uB
  have HY := hidP yB.drew
  have hs1 : W1.heap.size = w.heap.size + 1 := uS
  have hs2 : W2.heap.size = w.heap.size + 1 + 1 := yS
  have HS12 := hidP (And.intro hs1 hs2)
  clear uB yB uS yS hs1 hs2
  have HSx : Hid (∀ x, Below W1.heap.size W1 x → (x.cell? ⟨w.heap.size, 0, none⟩ = some (.slice ap np cp) ∧ x.cell? ⟨w.heap.size, 1, none⟩ = some (.slice ab nb cb) ∧ Below W1.heap.size W1 x)) := hidP fun x h =>
    ⟨(h.cell uL).trans u0, (h.cell uL).trans u1, h⟩
  refine wp_region_held_drew (S := (fun x => x.cell? ⟨w.heap.size, 0, none⟩ = some (.slice ap np cp) ∧ x.cell? ⟨w.heap.size, 1, none⟩ = some (.slice ab nb cb) ∧ Below W1.heap.size W1 x)) (by kernel_rfl) ?_ (fun hHeld => ?_)
  · try dsimp only
    exact HSx.out _ (HY.out)
  refine tk 0 3 rfl ?_
  simp only [pa]
  refine tk 1 4 rfl ?_
  simp only [pa]
  refine tk 3 6 rfl ?_
  simp only [pa]
  refine tk 4 7 rfl ?_
  simp only [pa]
  refine wpAnyH_ready (rs := [2]) (by kernel_rfl) (by simp) ?_
  refine AllReadyH.cons rfl (fun K hK => ?_) AllReadyH.nil
  go_simp
  go_wp2_with (first | (go_at_call 81; refine (HCP.out _ (HU.out.trans ((hHeld.2.2).mono HU.out.size))).mono ?_; rintro e w3 ⟨a3, c3, rfl, og3, hb3⟩; have b3 := (hHeld.2.2).trans (hb3.mono (hHeld.2.2).size)))
  refine hK.out _ _ ?_ (fun hHeld => ?_)
  · try dsimp only
    exact HSx.out _ b3
  clear hK K
  refine wpAnyH_ready (rs := [5]) (by kernel_rfl) (by simp) ?_
  refine AllReadyH.cons rfl (fun K hK => ?_) AllReadyH.nil
  go_simp
  go_wp2_with (first | (go_at_call 82; refine (HCB.out _ (HU.out.trans ((hHeld.2.2).mono HU.out.size))).mono ?_; rintro e w4 ⟨a4, c4, rfl, oh4, hb4⟩; have b4 := (hHeld.2.2).trans (hb4.mono (hHeld.2.2).size)))
  refine hK.out _ _ ?_ (fun hHeld => ?_)
  · try dsimp only
    exact HSx.out _ b4
  clear hK K
  refine tk 6 9 rfl ?_
  simp only [pa]
  have HO3 := hidP (og3.later (show Below w3.heap.size w3 w4 from hb4))
  have HO4 := hidP oh4
  have l3 := fun k hk => OwnG.lt og3 k hk
  have l4 := fun k hk => OwnG.lt oh4 k hk
  have z34 : w.heap.size + 1 < w3.heap.size := Nat.lt_of_lt_of_le yL hb3.size
  have r0 := (hb4.cell z34).trans ((hb3.cell yL).trans y0)
  have r1 := (hb4.cell z34).trans ((hb3.cell yL).trans y1)
  have rF : ∀ o, w4.frozen? ⟨w.heap.size + 1, o, none⟩ = false := fun o => (hb4.frozen z34).trans ((hb3.frozen yL).trans (yF o))
  have LL := hidP (And.intro l3 (And.intro l4 (And.intro hb3.size hb4.size)))
  clear l3 l4
  refine wpAnyH_ready (rs := [7]) (by kernel_rfl) (by simp) ?_
  refine AllReadyH.cons rfl (fun K hK => ?_) AllReadyH.nil
  go_simp
  refine hK.out _ _ ?_ (fun hHeld => ?_)
  · try dsimp only
    refine HSx.out _ ?_
    repeat (with_reducible refine Below.setCell ?_ ?_ _; rotate_left; (focus (have := HS12.out; simp; omega)))
    exact hHeld.2.2
  clear hK K
  have HE := hidP (hHeld.2.2)
  refine wpAnyH_done (by kernel_rfl) ?_ _
  clear hHeld
  go_wp2_with fail
  refine bodyPost_ret (v := .agg #[.slice a3 np c3, .slice a4 nb c4]) (by simp [results, Tryz.results32, go_sem, r0, r1]) rfl ⟨a3, c3, a4, c4, rfl, ?_, ?_, ?_, ?_⟩
  · have o1 := OwnG.grown HO3.out (grown_cellG w4 (w.heap.size + 1) 0 (.slice a3 np c3)) (fun k hk e => by have h5 : W2.heap.size ≤ k := (LL.out.1 k hk).1; have h6 := HS12.out; simp at e; omega)
    have o2 := OwnG.grown o1 (grown_cellG _ (w.heap.size + 1) 1 (.slice a4 nb c4)) (fun k hk e => by have h5 : W2.heap.size ≤ k := (LL.out.1 k hk).1; have h6 := HS12.out; simp at e; omega)
    exact o2.mono (show w.heap.size ≤ W2.heap.size by have := HS12.out; omega)
  · have o1 := OwnG.grown HO4.out (grown_cellG w4 (w.heap.size + 1) 0 (.slice a3 np c3)) (fun k hk e => by have h5 : w3.heap.size ≤ k := (LL.out.2.1 k hk).1; have h7 : W2.heap.size ≤ w3.heap.size := LL.out.2.2.1; have h6 := HS12.out; simp at e; omega)
    have o2 := OwnG.grown o1 (grown_cellG _ (w.heap.size + 1) 1 (.slice a4 nb c4)) (fun k hk e => by have h5 : w3.heap.size ≤ k := (LL.out.2.1 k hk).1; have h7 : W2.heap.size ≤ w3.heap.size := LL.out.2.2.1; have h6 := HS12.out; simp at e; omega)
    exact o2.mono (show w.heap.size ≤ w3.heap.size by have h7 : W2.heap.size ≤ w3.heap.size := LL.out.2.2.1; have := HS12.out; omega)
  · intro k h1 h2
    have l1 := LL.out.1 k h1
    have l2 := LL.out.2.1 k h2
    omega
  · exact HU.out.trans (HE.out.mono HU.out.size)

end Go.Proofs.YtdbcdichmmcnbaaGreat
