/-
  What may be granted, and where it comes in.
-/
import Derived.Test.YtddnofonodgneaaGreatDoorV6Hld
import Derived.Test.YtddnofonodgneaaGreatDoorV6IRn
namespace Go.Proofs.YtddnofonodgneaaGreatDoor
open Go.RowKit

def gokB (ls : List Ls) (T N : Int) (ad : Ad) (own : ByteArray) (span : Int) : Bool := bkB ls T N && (ad.ok && (ownB own && (((decide (1 ≤ span) && decide (span ≤ 1000)) && decide (N + span ≤ 1000000000)) && !(T == 1000000000))))
/-- The place where an address comes in. -/
def LowAt (ls : List Ls) (ad : Ad) (i : Nat) : Prop := i ≤ ls.length ∧ (∀ (j : Nat) (q : Ls), j < i → ls[j]? = some q → q.a.key < ad.key) ∧ (∀ (j : Nat) (q : Ls), i ≤ j → ls[j]? = some q → ad.key ≤ q.a.key)
theorem low_le {ls : List Ls} {ad : Ad} {i j : Nat} (h : LowAt ls ad i) (g : LowAt ls ad j) : i ≤ j := by
  rcases Nat.lt_or_ge j i with hl | hl
  · have hj : j < ls.length := by have := h.1; omega
    have h1 := h.2.1 j ls[j] hl (List.getElem?_eq_getElem hj)
    have h2 := g.2.2 j ls[j] (Nat.le_refl _) (List.getElem?_eq_getElem hj)
    omega
  · exact hl
theorem low_one {ls : List Ls} {ad : Ad} {i j : Nat} (h : LowAt ls ad i) (g : LowAt ls ad j) : i = j := Nat.le_antisymm (low_le h g) (low_le g h)

end Go.Proofs.YtddnofonodgneaaGreatDoor
