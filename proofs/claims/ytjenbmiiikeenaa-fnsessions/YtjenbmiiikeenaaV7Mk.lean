/-
  The laws' marks of rows of sessions and of desks, and the looks whether they stand.
-/
import Derived.Test.YtjenbmiiikeenaaVMark
import Derived.Test.YtjenbmiiikeenaaVDeskS
import Derived.Deep.RegionWith
import Derived.Deep.RegionHeld3
namespace Go.Proofs.Ytjenbmiiikeenaa
open Go.RowKit

theorem grown_cell (w : World) (g o : Nat) (v : Value) : w.grownBy (w.setCell ⟨g, o, none⟩ v) (some g) :=
  ⟨rfl, rfl, rfl, by simp, fun k _ hk => heap_setCell_other w ⟨g, o, none⟩ k v (fun e => hk (by simp [e]))⟩
theorem ownsRow_later {w w' : World} {B k n : Nat} {t : TypeId} {v : Value} {xs : List Value} (h : w.ownsRow B t k v n xs) (hb : Below w.heap.size w w') : w'.ownsRow B t k v n xs := by
  refine ⟨h.1, ?_⟩
  rcases h.2 with h' | ⟨g, c, cur, h1, h2, h3, h4⟩
  · exact Or.inl h'
  · refine Or.inr ⟨g, c, cur, h1, h2, ?_, h4⟩
    have hg : g < w.heap.size := by
      rcases Nat.lt_or_ge g w.heap.size with h' | h'
      · exact h'
      · rw [Array.getElem?_eq_none h'] at h3; cases h3
    exact (hb.block g hg).trans h3
theorem grown_of {w w' : World} (h : Below w.heap.size w w') (r : Option Nat) : w.grownBy w' r := ⟨h.os, h.tape, h.output, h.size, fun k hk _ => h.block k hk⟩

/-- The marks of the j-th session. -/
def mkSs (k : Int) (j : Nat) : Ss := ⟨k + 4 * (j : Int), k + 4 * (j : Int) + 1, mtT (k + 4 * (j : Int) + 1 + 1).toNat, k + 4 * (j : Int) + 1 + 1 + 1⟩
end Go.Proofs.Ytjenbmiiikeenaa
