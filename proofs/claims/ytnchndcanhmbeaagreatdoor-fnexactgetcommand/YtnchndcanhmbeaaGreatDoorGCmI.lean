/-
  What is known of a command.
-/
import Derived.Test.YtnchndcanhmbeaaGreatDoorGWth
namespace Go.Proofs.YtnchndcanhmbeaaGreatDoor
open Go.RowKit

/-- What is known of a command's numbers and its owner: they are words of 64 bits; the owner's text is no longer than the law allows. -/
structure CmI (s q n b t sp : Int) (o : ByteArray) : Prop where
  s : I6 s
  q : I6 q
  n : I6 n
  b : I6 b
  t : I6 t
  p : I6 sp
  o : o.size ≤ 1048576

end Go.Proofs.YtnchndcanhmbeaaGreatDoor
