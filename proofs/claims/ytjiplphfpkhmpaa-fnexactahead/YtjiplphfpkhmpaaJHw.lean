/-
  Both Ahead.
-/
import Derived.Test.YtjiplphfpkhmpaaJHs
namespace Go.Proofs.Ytjiplphfpkhmpaa
open Go.RowKit

theorem iAhead_w (us : List Value) (R : List RepA) (o oD : Option Addr) (c cD nD : Nat) (w : World) (k0 : us[0]? = some (.slice o R.length c)) (k5 : us[5]? = some (.slice oD nD cD)) (hn : R.length ≤ 1048576) (hat : ∀ j y, R[j]? = some y → At cReplica w 0 o j y) :
    Calls Try.prog 11 #[.agg us.toArray] w fun e w' => e = .returned (.bool (allN (ahF R nD) R.length)) ∧ Below w.heap.size w w' := by
  refine wrap1 (m := 31) Try.func11 rfl rfl rfl ⟨_, Try.func31, by kernel_rfl, by kernel_rfl⟩ (fun V B hb => ?_)
  exact iAhead_m us R o oD c cD nD w.heap.size V k0 k5 hn (fun j y h => (hat j y h).frm (Fr.of hb)) B
theorem ah_both {us : List Value} {x : CluA} {w : World} (h : cCluster.rep w 0 us x) (ht : cCluster.tot x ≤ 1048576) :
    Calls Try.prog 10 #[vA us] w (fun e w' => e = .returned (.bool (allN (ahF (cluR x) (cluDone x).length) (cluR x).length)) ∧ Below w.heap.size w w') ∧ Calls Try.prog 11 #[vA us] w (fun e w' => e = .returned (.bool (allN (ahF (cluR x) (cluDone x).length) (cluR x).length)) ∧ Below w.heap.size w w') := by
  obtain ⟨hl, h1, ⟨o, c, k0, hn, hat⟩, _, ⟨oD, cD, k5, _⟩⟩ := clu_parts h ht
  exact ⟨sAhead_m us _ o oD c cD _ w k0 k5 hn hat, iAhead_w us _ o oD c cD _ w k0 k5 hn hat⟩

end Go.Proofs.Ytjiplphfpkhmpaa
