/-
  Boxes that a call has laid, named by what they hold: they stay behind whatever only makes memory. No program is named.
-/
import Derived.Test.YtofnnpjadehgmaaDoorAOk
namespace Go.Proofs.YtofnnpjadehgmaaDoor
open Go.RowKit

def Box (W : World) (p : Nat) (vs : List Value) : Prop := p < W.heap.size ∧ ∀ j v, vs[j]? = some v → W.cell? ⟨p, j, none⟩ = some v
theorem Box.below {W X : World} {p : Nat} {vs : List Value} (h : Box W p vs) (k : Below W.heap.size W X) : Box X p vs :=
  ⟨Nat.lt_of_lt_of_le h.1 k.size, fun j v e => (k.cell h.1).trans (h.2 j v e)⟩
theorem Box.more {W : World} {p : Nat} {vs : List Value} (h : Box W p vs) (o : Obj) : Box (W.alloc o) p vs := h.below ((Below.refl _ W).alloc (Nat.le_refl _) _)
theorem Box.new {W : World} {p : Nat} (cs : List Value) (t : TypeId) (hp : p = W.heap.size) : Box (W.alloc (.cells cs.toArray t)) p cs := by
  subst hp
  refine ⟨by simp, fun j v e => ?_⟩
  simp [go_sem, e]

end Go.Proofs.YtofnnpjadehgmaaDoor
