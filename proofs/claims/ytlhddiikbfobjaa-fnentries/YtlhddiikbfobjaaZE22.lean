/-
  The specification's GetGroup of any bytes of one's own.
-/
import Derived.Test.YtlhddiikbfobjaaChecked
import GoSem.Claim
import GoSem.ClaimJoined
import GoSem.ClaimMapViews
import Derived.JoinedTies
import Derived.KernelRfl
import Derived.WalkKit
import Derived.WalkSpells
import Derived.WalkLawsBesides
import Derived.Deep.AppendSrc
import Derived.OwnWalk
import Derived.Deep.RegionWith
import Derived.Deep.DeepCutAuto
import Derived.Deep.QuietTactic
import Derived.BigQuiet
import Derived.Deep.AppendLies
import Derived.Carry
import Derived.Deep.Slices
import Derived.Deep.RegionHeld3
import Derived.ChangeMaps5
import Derived.Lib.SmallJoins
import Derived.Lib.SliceRun
import Derived.ProofKit
import Derived.RangeFuncNested
import Derived.RangeFuncBound
import Derived.RangeFuncCalls
import Derived.RangeFuncLeaves
import Derived.Shelf.Abstract
import Derived.Shelf.RegionOpen
import Derived.OwnWalkIn
import Derived.TacticsInMore
import Derived.LoopNIn
import Derived.LoopIn
import Derived.RegionTactic
import Derived.Lib.AppendZeros
import Derived.Test.YtlhddiikbfobjaaZE19
import Derived.Test.YtlhddiikbfobjaaZE20
import Derived.Test.YtlhddiikbfobjaaZE21
namespace Go.Proofs.Ytlhddiikbfobjaa
open Go.ChangeShapes Go.WideShapes Go.ChangeAt Go.RowKit Go.Joins Go.Deep

/-- How a group comes out. -/
def GrO (w w' : World) (e : Ending) : Prop := ∃ (a1 : Option Addr) (n1 c1 : Nat) (a2 : Option Addr) (n2 c2 : Nat) (ps bs : List Int) (ok : Bool), e = .returned (.tuple #[.agg #[.slice a1 n1 c1, .slice a2 n2 c2], .bool ok]) ∧ n1 = ps.length ∧ n2 = bs.length ∧ n1 ≤ 100 ∧ n2 ≤ 100 ∧ OwnG KI 3 w' w.heap.size (.slice a1 n1 c1) ps ∧ OwnG KI 3 w' w.heap.size (.slice a2 n2 c2) bs
theorem sGetC (a : Option Addr) (n c : Nat) (zs : List Int) (w : World) (B : Nat) (hn : n = zs.length) (ho : Oct zs) (hw : OwnG KBy 5 w B (.slice a n c) zs) :
    Calls Try.prog 88 #[.slice a n c] w fun e w' => GrO w w' e ∧ Below w.heap.size w w' := by
  by_cases h2 : n = 2
  · subst h2
    match zs, hn with
    | [u, v], _ =>
      have hr := hw.row
      obtain ⟨g, rfl⟩ : ∃ g, a = some ⟨g, 0, none⟩ := by
        rcases hw.2 with ⟨hv, h0⟩ | ⟨g, c', cur, hv, _⟩
        · simp at h0
        · simp at hv
          exact ⟨g, hv.1⟩
      have hu := ho u (by simp)
      have hv := ho v (by simp)
      obtain ⟨bx, rfl⟩ : ∃ bx : Nat, u = (bx : Int) := ⟨u.toNat, by omega⟩
      obtain ⟨bq, rfl⟩ : ∃ bq : Nat, v = (bq : Int) := ⟨v.toNat, by omega⟩
      have hx : bx < 256 := by omega
      have hy : bq < 256 := by omega
      have hs := got_s bx bq hx hy
      have l1 := ls_len ⟨bx, hx⟩
      have l2 := ls_len ⟨bq, hy⟩
      simp only at l1 l2
      cases hg : gotB bx bq
      · rw [hg] at hs
        cases hq : grB (lsB 7 bx 1) (lsB 7 bq 1)
        · exact (sGgC_nok g c bx bq hx hy w hr hq).mono fun e w' ⟨a, c, b, d, he, o1, o2, _, hb⟩ => ⟨⟨a, 0, c, b, 0, d, [], [], false, he, rfl, rfl, by omega, by omega, o1, o2⟩, hb⟩
        · rw [hq, Bool.true_and] at hs
          exact (sGgC_dif g c bx bq hx hy w hr hq hs).mono fun e w' ⟨a, c, b, d, he, o1, o2, _, hb⟩ => ⟨⟨a, 0, c, b, 0, d, [], [], false, he, rfl, rfl, by omega, by omega, o1, o2⟩, hb⟩
      · rw [hg, Bool.and_eq_true] at hs
        exact (sGgC_good g c bx bq hx hy w hr hs.1 hs.2).mono fun e w' ⟨a, c, b, d, he, o1, o2, _, hb⟩ => ⟨⟨a, _, c, b, _, d, _, _, true, he, rfl, rfl, by omega, by omega, o1, o2⟩, hb⟩
  · exact (sGg_len _ n c h2 w).mono fun e w' ⟨a, c, b, d, he, o1, o2, _, hb⟩ => ⟨⟨a, 0, c, b, 0, d, [], [], false, he, rfl, rfl, by omega, by omega, o1, o2⟩, hb⟩

end Go.Proofs.Ytlhddiikbfobjaa
