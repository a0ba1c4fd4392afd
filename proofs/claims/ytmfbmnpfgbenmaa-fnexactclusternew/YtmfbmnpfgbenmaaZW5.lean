/-
  The two GroupOk.
-/
import Derived.Test.YtmfbmnpfgbenmaaZW4
namespace Go.Proofs.Ytmfbmnpfgbenmaa
open Go.ChangeShapes Go.WideShapes Go.ChangeAt Go.RowKit Go.Joins Go.Deep

/-- GroupOk, plain. -/
def grB (ps bs : List Int) : Bool := (idsB 0 ps && idsB 0 bs) && decide (0 < ps.length)
set_option maxRecDepth 10000 in
set_option maxHeartbeats 1000000 in
theorem iGroupOk_any (ap : Option Addr) (np cp : Nat) (ab : Option Addr) (nb cb : Nat) (ps bs : List Int) (w : World) (hnp : np = ps.length) (hnb : nb = bs.length) (hP : RowG KI w ap ps) (hK : RowG KI w ab bs) (hl : np ≤ 1048576) (hl' : nb ≤ 1048576) :
    Calls Try.prog 24 #[.agg #[.slice ap np cp, .slice ab nb cb]] w fun e w' => e = .returned (.bool (grB ps bs)) ∧ Below w.heap.size w w' := by
  have H1 := hidP (fun W h => idsOk_any ap np cp ps W hnp (hP.later h) hl)
  have H2 := hidP (fun W h => idsOk_any ab nb cb bs W hnb (hK.later h) hl')
  have hr : grB ps bs = ((idsB 0 ps && idsB 0 bs) && decide (0 < np)) := by unfold grB; rw [hnp]
  rw [hr]
  clear hr hP hK hnp hnb
  generalize idsB 0 ps = A at *
  generalize idsB 0 bs = C at *
  have hd' : decide ((0 : Int) < (np : Int)) = decide (0 < np) := decide_eq_decide.2 (by omega)
  cases hd : decide (0 < np) <;> rw [hd] at hd'
  · cases A <;> cases C
    all_goals
      go_enter Try.func24, Try.ntmps24
      go_wp2_with fail
      obtain ⟨u0, u1⟩ := box2D w 25 (.slice ap np cp) (.slice ab nb cb)
      have uB := alloc_below w (.cells #[.slice ap np cp, .slice ab nb cb] 25)
      have uL : w.heap.size < (w.alloc (.cells #[.slice ap np cp, .slice ab nb cb] 25)).heap.size := by simp
      generalize w.alloc (.cells #[.slice ap np cp, .slice ab nb cb] 25) = W1 at *
      have HU := hidP uB
      clear uB
      go_wp2_with fail
      go_ret
      exact ⟨rfl, HU.out⟩
  · cases A
    ·
      go_enter Try.func24, Try.ntmps24
      go_wp2_with fail
      obtain ⟨u0, u1⟩ := box2D w 25 (.slice ap np cp) (.slice ab nb cb)
      have uB := alloc_below w (.cells #[.slice ap np cp, .slice ab nb cb] 25)
      have uL : w.heap.size < (w.alloc (.cells #[.slice ap np cp, .slice ab nb cb] 25)).heap.size := by simp
      generalize w.alloc (.cells #[.slice ap np cp, .slice ab nb cb] 25) = W1 at *
      have HU := hidP uB
      clear uB
      go_wp2_with fail
      refine (H1.out _ HU.out).mono ?_
      rintro e w2 ⟨rfl, rfl⟩
      go_wp2_with fail
      go_ret
      exact ⟨retB (by cases C <;> rfl), HU.out⟩
    ·
      go_enter Try.func24, Try.ntmps24
      go_wp2_with fail
      obtain ⟨u0, u1⟩ := box2D w 25 (.slice ap np cp) (.slice ab nb cb)
      have uB := alloc_below w (.cells #[.slice ap np cp, .slice ab nb cb] 25)
      have uL : w.heap.size < (w.alloc (.cells #[.slice ap np cp, .slice ab nb cb] 25)).heap.size := by simp
      generalize w.alloc (.cells #[.slice ap np cp, .slice ab nb cb] 25) = W1 at *
      have HU := hidP uB
      clear uB
      go_wp2_with fail
      refine (H1.out _ HU.out).mono ?_
      rintro e w2 ⟨rfl, rfl⟩
      go_wp2_with fail
      refine (H2.out _ HU.out).mono ?_
      rintro e w3 ⟨rfl, rfl⟩
      go_wp2_with fail
      go_ret
      exact ⟨retB (by cases C <;> rfl), HU.out⟩

set_option maxRecDepth 10000 in
set_option maxHeartbeats 1000000 in
theorem sGroupOk_any (ap : Option Addr) (np cp : Nat) (ab : Option Addr) (nb cb : Nat) (ps bs : List Int) (w : World) (hnp : np = ps.length) (hnb : nb = bs.length) (hP : RowG KI w ap ps) (hK : RowG KI w ab bs) (hl : np ≤ 1048576) (hl' : nb ≤ 1048576) :
    Calls Try.prog 61 #[.agg #[.slice ap np cp, .slice ab nb cb]] w fun e w' => e = .returned (.bool (grB ps bs)) ∧ Below w.heap.size w w' := by
  have H1 := hidP (fun W h => l12Ids_any ap np cp ps W hnp (hP.later h) hl)
  have H2 := hidP (fun W h => l12Ids_any ab nb cb bs W hnb (hK.later h) hl')
  have hr : grB ps bs = ((idsB 0 ps && idsB 0 bs) && decide (0 < np)) := by unfold grB; rw [hnp]
  rw [hr]
  clear hr hP hK hnp hnb
  generalize idsB 0 ps = A at *
  generalize idsB 0 bs = C at *
  have hd' : decide ((0 : Int) < (np : Int)) = decide (0 < np) := decide_eq_decide.2 (by omega)
  cases A
  ·
      go_enter Try.func61, Try.ntmps61
      go_wp2_with fail
      obtain ⟨u0, u1⟩ := box2D w 25 (.slice ap np cp) (.slice ab nb cb)
      have uB := alloc_below w (.cells #[.slice ap np cp, .slice ab nb cb] 25)
      have uL : w.heap.size < (w.alloc (.cells #[.slice ap np cp, .slice ab nb cb] 25)).heap.size := by simp
      generalize w.alloc (.cells #[.slice ap np cp, .slice ab nb cb] 25) = W1 at *
      have HU := hidP uB
      clear uB
      go_wp2_with fail
      refine (H1.out _ HU.out).mono ?_
      rintro e w2 ⟨rfl, hb⟩
      have v0 := (hb.cell uL).trans u0
      have v1 := (hb.cell uL).trans u1
      have HV := hidP (HU.out.trans (hb.mono HU.out.size))
      have vL : w.heap.size < w2.heap.size := Nat.lt_of_lt_of_le uL hb.size
      clear hb u0 u1 uL HU
      have HU := hidP HV.out
      obtain ⟨u0, u1, uL⟩ := And.intro v0 (And.intro v1 vL)
      clear v0 v1 vL HV
      go_wp2_with fail
      go_ret
      exact ⟨rfl, HU.out⟩
  · cases C
    ·
      go_enter Try.func61, Try.ntmps61
      go_wp2_with fail
      obtain ⟨u0, u1⟩ := box2D w 25 (.slice ap np cp) (.slice ab nb cb)
      have uB := alloc_below w (.cells #[.slice ap np cp, .slice ab nb cb] 25)
      have uL : w.heap.size < (w.alloc (.cells #[.slice ap np cp, .slice ab nb cb] 25)).heap.size := by simp
      generalize w.alloc (.cells #[.slice ap np cp, .slice ab nb cb] 25) = W1 at *
      have HU := hidP uB
      clear uB
      go_wp2_with fail
      refine (H1.out _ HU.out).mono ?_
      rintro e w2 ⟨rfl, hb⟩
      have v0 := (hb.cell uL).trans u0
      have v1 := (hb.cell uL).trans u1
      have HV := hidP (HU.out.trans (hb.mono HU.out.size))
      have vL : w.heap.size < w2.heap.size := Nat.lt_of_lt_of_le uL hb.size
      clear hb u0 u1 uL HU
      have HU := hidP HV.out
      obtain ⟨u0, u1, uL⟩ := And.intro v0 (And.intro v1 vL)
      clear v0 v1 vL HV
      go_wp2_with fail
      refine (H2.out _ HU.out).mono ?_
      rintro e w3 ⟨rfl, hb⟩
      have v0 := (hb.cell uL).trans u0
      have v1 := (hb.cell uL).trans u1
      have HV := hidP (HU.out.trans (hb.mono HU.out.size))
      have vL : w.heap.size < w3.heap.size := Nat.lt_of_lt_of_le uL hb.size
      clear hb u0 u1 uL HU
      have HU := hidP HV.out
      obtain ⟨u0, u1, uL⟩ := And.intro v0 (And.intro v1 vL)
      clear v0 v1 vL HV
      go_wp2_with fail
      go_ret
      exact ⟨rfl, HU.out⟩
    · cases hd : decide (0 < np) <;> rw [hd] at hd'
      all_goals
        go_enter Try.func61, Try.ntmps61
        go_wp2_with fail
        obtain ⟨u0, u1⟩ := box2D w 25 (.slice ap np cp) (.slice ab nb cb)
        have uB := alloc_below w (.cells #[.slice ap np cp, .slice ab nb cb] 25)
        have uL : w.heap.size < (w.alloc (.cells #[.slice ap np cp, .slice ab nb cb] 25)).heap.size := by simp
        generalize w.alloc (.cells #[.slice ap np cp, .slice ab nb cb] 25) = W1 at *
        have HU := hidP uB
        clear uB
        go_wp2_with fail
        refine (H1.out _ HU.out).mono ?_
        rintro e w2 ⟨rfl, hb⟩
        have v0 := (hb.cell uL).trans u0
        have v1 := (hb.cell uL).trans u1
        have HV := hidP (HU.out.trans (hb.mono HU.out.size))
        have vL : w.heap.size < w2.heap.size := Nat.lt_of_lt_of_le uL hb.size
        clear hb u0 u1 uL HU
        have HU := hidP HV.out
        obtain ⟨u0, u1, uL⟩ := And.intro v0 (And.intro v1 vL)
        clear v0 v1 vL HV
        go_wp2_with fail
        refine (H2.out _ HU.out).mono ?_
        rintro e w3 ⟨rfl, hb⟩
        have v0 := (hb.cell uL).trans u0
        have v1 := (hb.cell uL).trans u1
        have HV := hidP (HU.out.trans (hb.mono HU.out.size))
        have vL : w.heap.size < w3.heap.size := Nat.lt_of_lt_of_le uL hb.size
        clear hb u0 u1 uL HU
        have HU := hidP HV.out
        obtain ⟨u0, u1, uL⟩ := And.intro v0 (And.intro v1 vL)
        clear v0 v1 vL HV
        go_wp2_with fail
        go_ret
        exact ⟨rfl, HU.out⟩

end Go.Proofs.Ytmfbmnpfgbenmaa
