/-
  The laws' look at two rows of prefixes that are alike, the marks, and the look whether they stand.
-/
import Derived.Test.YthbpehpnikknlaaPTo
import Derived.Test.YthbpehpnikknlaaBEqP
namespace Go.Proofs.Ythbpehpnikknlaa
open Go.RowKit

/-- The marks of the j-th prefix. -/
def mkP (k : Int) (j : Nat) : Pf := ⟨(k + 4 * (j : Int)) % 3 == 0, BitVec.ofInt 64 (k + 4 * (j : Int) + 1), BitVec.ofInt 64 (k + 4 * (j : Int) + 1 + 1), k + 4 * (j : Int) + 1 + 1 + 1⟩
def mksP (k : Int) (n : Nat) : List Pf := (List.range n).map (mkP k)
theorem mksP_len (k : Int) (n : Nat) : (mksP k n).length = n := by simp [mksP]
theorem mksP_at (k : Int) (n j : Nat) (h : j < n) : (mksP k n)[j]? = some (mkP k j) := by simp [mksP, h]
theorem mksP_step (k : Int) (n i : Nat) (ps : List Pf) (hl : ps.length = n) (hi : i < n) : (mksP k i ++ ps.drop i).set i (mkP k i) = mksP k (i + 1) ++ ps.drop (i + 1) := by
  have e : mksP k (i + 1) = mksP k i ++ [mkP k i] := by simp [mksP, List.range_succ]
  have hd : ps.drop i = ps[i] :: ps.drop (i + 1) := List.drop_eq_getElem_cons (by omega)
  rw [e, hd, List.set_append_right _ _ (by simp [mksP])]
  have e0 : i - (mksP k i).length = 0 := by rw [mksP_len]; omega
  rw [e0, List.set_cons_zero, List.append_assoc]
  rfl
theorem toI64 (x : Int) (h0 : 0 ≤ x) (h1 : x ≤ 90000000000) : (BitVec.ofInt 64 x).toInt = x := by
  rw [BitVec.toInt_ofInt, Int.bmod_def]
  split <;> omega

theorem grown_cell (w : World) (g o : Nat) (v : Value) : w.grownBy (w.setCell ⟨g, o, none⟩ v) (some g) :=
  ⟨rfl, rfl, rfl, by simp, fun k _ hk => heap_setCell_other w ⟨g, o, none⟩ k v (fun e => hk (by simp [e]))⟩

end Go.Proofs.Ythbpehpnikknlaa
