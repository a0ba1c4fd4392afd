/-
  Both StatesMatch.
-/
import Derived.Test.YtjiplphfpkhmpaaGreatJXa
import Derived.Test.YtjiplphfpkhmpaaGreatJY
namespace Go.Proofs.YtjiplphfpkhmpaaGreat
open Go.RowKit

theorem clu_tot {x : CluA} (ht : cCluster.tot x ≤ 1048576) : ∀ (j : Nat) (y : RepA), (cluR x)[j]? = some y → cState.tot (rState y) ≤ 1048576 := by
  intro j y hj
  obtain ⟨⟨⟨⟨⟨⟨⟨_, x0⟩, x1⟩, x2⟩, x3⟩, x4⟩, x5⟩, x6⟩ := x
  have t0 := (tot_two (tot_two (tot_two (tot_two (tot_two (tot_two (tot_two ht).1).1).1).1).1).1).2
  have t0' : (x0.length : Int) + sumT cReplica.tot x0 ≤ 1048576 := t0
  have hm := sumT_mem cReplica.nn (List.mem_of_getElem? hj : y ∈ x0)
  have h1 : cReplica.tot y ≤ 1048576 := by omega
  obtain ⟨⟨⟨⟨⟨_, sv⟩, st⟩, ap⟩, fl⟩, up⟩ := y
  exact (tot_two (tot_two (tot_two (tot_two h1).1).1).1).2
theorem sts_both {us : List Value} {x : CluA} {w : World} (h : cCluster.rep w 0 us x) (ht : cCluster.tot x ≤ 1048576) :
    Calls Tryz.prog 5 #[vA us] w (fun e w' => e = .returned (.bool (allN (stG (cluR x)) (cluR x).length)) ∧ Below w.heap.size w w') ∧ Calls Tryz.prog 7 #[vA us] w (fun e w' => e = .returned (.bool (allN (stG (cluR x)) (cluR x).length)) ∧ Below w.heap.size w w') := by
  obtain ⟨hl, h1, ⟨o, c, k0, hn, hat⟩, _, _⟩ := clu_parts h ht
  refine ⟨sSts_m us _ o c w k0 hn hat (clu_tot ht), ?_⟩
  refine wrap1 (m := 22) Tryz.func7 rfl rfl rfl ⟨_, Tryz.func22, by kernel_rfl, by kernel_rfl⟩ (fun V B hb => ?_)
  exact iSts_m us _ o c w.heap.size V k0 hn (fun j y h => (hat j y h).frm (Fr.of hb)) (clu_tot ht) B

end Go.Proofs.YtjiplphfpkhmpaaGreat
