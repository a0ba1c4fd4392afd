/-
  The laws' look at two rows of prefixes that are alike, the marks, and the look whether they stand.
-/
import Derived.Test.YtdbcdichmmcnbaaGreatZK14
import Derived.Test.YtdbcdichmmcnbaaGreatZK16
namespace Go.Proofs.YtdbcdichmmcnbaaGreat
open Go.RowKit

theorem toI64 (x : Int) (h0 : 0 ≤ x) (h1 : x ≤ 90000000000) : (BitVec.ofInt 64 x).toInt = x := by
  rw [BitVec.toInt_ofInt, Int.bmod_def]
  split <;> omega

theorem grown_cell (w : World) (g o : Nat) (v : Value) : w.grownBy (w.setCell ⟨g, o, none⟩ v) (some g) :=
  ⟨rfl, rfl, rfl, by simp, fun k _ hk => heap_setCell_other w ⟨g, o, none⟩ k v (fun e => hk (by simp [e]))⟩

end Go.Proofs.YtdbcdichmmcnbaaGreat
