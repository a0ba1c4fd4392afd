/-
  The program's PlanOk.
-/
import Derived.Test.YtmbmekcppmbokaaGreatVBlocks
namespace Go.Proofs.YtmbmekcppmbokaaGreat
open Go.RowKit

set_option maxRecDepth 10000 in
set_option maxHeartbeats 1000000 in
theorem iPlanOk_any (ap : Option Addr) (np cp : Nat) (ab : Option Addr) (nb cb : Nat) (ps : List Pl) (bs : List Bk) (w : World) (hnp : np = ps.length) (hnb : nb = bs.length) (hP : RowG KPl w ap ps) (hK : RowG KBk w ab bs) (hlp : np ≤ 9000000000) (hl : nb ≤ 9000000000) (hst : ∀ q ∈ bs, q.t.size ≤ 9223372036854775807) :
    Calls Tryz.prog 30 #[.agg #[.slice ap np cp, .slice ab nb cb]] w fun e w' => e = .returned (.bool (planB ps bs)) ∧ Below w.heap.size w w' := by
  have HPO := hidP (fun W h => poolsOk_any ap np cp ps W hnp (hP.later h) hlp)
  have HBO := hidP (fun W h => blocksOk_any ap np cp ab nb cb ps bs W hnp hnb (hP.later h) (hK.later h) hlp hl hst)
  have hv : planB ps bs = ((decide (np ≤ 20) && decide (nb ≤ 60)) && (poolsF none ps && blocksI ps none bs)) := by rw [hnp, hnb]; rfl
  rw [hv]
  generalize poolsF none ps = r1 at *
  generalize blocksI ps none bs = r2 at *
  clear hP hK hnp hnb hst hv
  cases h1 : decide (np ≤ 20)
  · have g1 : decide ((np : Int) ≤ 20) = false := by rw [← h1]; exact decide_eq_decide.mpr (by omega)
    go_enter Tryz.func30, Tryz.ntmps30
    go_wp2_with fail
    go_ret
    exact ⟨rfl, (Below.refl _ _).alloc (Nat.le_refl _) _⟩
  · have g1 : decide ((np : Int) ≤ 20) = true := by rw [← h1]; exact decide_eq_decide.mpr (by omega)
    cases h2 : decide (nb ≤ 60)
    · have g2 : decide ((nb : Int) ≤ 60) = false := by rw [← h2]; exact decide_eq_decide.mpr (by omega)
      go_enter Tryz.func30, Tryz.ntmps30
      go_wp2_with fail
      go_ret
      exact ⟨rfl, (Below.refl _ _).alloc (Nat.le_refl _) _⟩
    · have g2 : decide ((nb : Int) ≤ 60) = true := by rw [← h2]; exact decide_eq_decide.mpr (by omega)
      cases r1
      · go_enter Tryz.func30, Tryz.ntmps30
        go_wp2_with fail
        obtain ⟨u0, u1⟩ := box2 (u := .slice ap np cp) (v := .slice ab nb cb) w 34
        have uB := alloc_below w (.cells #[.slice ap np cp, .slice ab nb cb] 34)
        have uL := alloc_lt w (.cells #[.slice ap np cp, .slice ab nb cb] 34)
        have uS : (w.alloc (.cells #[.slice ap np cp, .slice ab nb cb] 34)).heap.size = w.heap.size + 1 := by simp
        generalize w.alloc (.cells #[.slice ap np cp, .slice ab nb cb] 34) = W1 at *
        have HUB := hidP uB
        refine (HPO.out W1 uB).mono ?_
        rintro e w1 ⟨rfl, hb1⟩
        have HB1 := hidP hb1
        have z0 := (hb1.cell uL).trans u0
        have z1 := (hb1.cell uL).trans u1
        clear uB hb1
        go_wp2_with fail
        go_ret
        exact ⟨rfl, HUB.out.trans (HB1.out.mono HUB.out.size)⟩
      · go_enter Tryz.func30, Tryz.ntmps30
        go_wp2_with fail
        obtain ⟨u0, u1⟩ := box2 (u := .slice ap np cp) (v := .slice ab nb cb) w 34
        have uB := alloc_below w (.cells #[.slice ap np cp, .slice ab nb cb] 34)
        have uL := alloc_lt w (.cells #[.slice ap np cp, .slice ab nb cb] 34)
        have uS : (w.alloc (.cells #[.slice ap np cp, .slice ab nb cb] 34)).heap.size = w.heap.size + 1 := by simp
        generalize w.alloc (.cells #[.slice ap np cp, .slice ab nb cb] 34) = W1 at *
        have HUB := hidP uB
        refine (HPO.out W1 uB).mono ?_
        rintro e w1 ⟨rfl, hb1⟩
        have HB1 := hidP (HUB.out.trans (hb1.mono HUB.out.size))
        have z0 := (hb1.cell uL).trans u0
        have z1 := (hb1.cell uL).trans u1
        clear uB hb1
        go_wp2_with fail
        refine (HBO.out w1 HB1.out).mono ?_
        rintro e w2 ⟨rfl, hb2⟩
        have HB2 := hidP hb2
        clear hb2
        go_wp2_with fail
        go_ret
        exact ⟨by cases r2 <;> rfl, HB1.out.trans (HB2.out.mono HB1.out.size)⟩

end Go.Proofs.YtmbmekcppmbokaaGreat
