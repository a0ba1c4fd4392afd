/-
  The laws' marking of a row of bytes that the call owns, and the look whether the marks still stand; nothing turns but the row that is marked.
-/
import Derived.Test.YtgenjjhchnnpnaaDoorCByt
namespace Go.Proofs.YtgenjjhchnnpnaaDoor
open Go.RowKit

/-- The marks k, k + 1 .. of n bytes. -/
def mks (k : Int) (n : Nat) : List Int := (List.range n).map fun (j : Nat) => IntKind.u8.wrap (k + (j : Int))
theorem mks_len (k : Int) (n : Nat) : (mks k n).length = n := by simp [mks]
theorem mks_at (k : Int) (n j : Nat) (h : j < n) : (mks k n)[j]? = some (IntKind.u8.wrap (k + (j : Int))) := by simp [mks, h]
theorem mks_step (k : Int) (n i : Nat) (zs : List Int) (hl : zs.length = n) (hi : i < n) :
    (((mks k i ++ zs.drop i).map (Value.int .u8)).set i (.int .u8 (IntKind.u8.wrap (k + (i : Int))))) = (mks k (i + 1) ++ zs.drop (i + 1)).map (Value.int .u8) := by
  have e : mks k (i + 1) = mks k i ++ [IntKind.u8.wrap (k + (i : Int))] := by simp [mks, List.range_succ]
  have hd : zs.drop i = zs[i] :: zs.drop (i + 1) := List.drop_eq_getElem_cons (by omega)
  rw [e, hd, List.map_append, List.set_append_right _ _ (by simp [mks]), List.map_cons]
  simp [mks]

end Go.Proofs.YtgenjjhchnnpnaaDoor
