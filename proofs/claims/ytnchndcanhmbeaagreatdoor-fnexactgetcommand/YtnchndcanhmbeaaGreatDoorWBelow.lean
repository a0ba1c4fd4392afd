/-
  The specification's l1Below, l1Once and l1Int: a number below n, a coin, one of a row; the cursor lies on; nothing else turns.
-/
import Derived.Test.YtnchndcanhmbeaaGreatDoorWByte
namespace Go.Proofs.YtnchndcanhmbeaaGreatDoor
open Go.RowKit

/-- A number of the kind int. -/
def I64 (z : Int) : Prop := -9223372036854775808 ≤ z ∧ z ≤ 9223372036854775807

/-- The cursor behind a store into a newer block; what is kept behind new memory. -/
theorem Cur.far {W : World} {c : Nat} {a : Option Addr} {len cap : Nat} (h : Cur W c a len cap) {b o : Nat} (hb : c < b) (v : Value) : Cur (W.setCell ⟨b, o, none⟩ v) c a len cap :=
  h.keep ((Below.refl _ W).setCell (by show c + 1 ≤ b; omega) _)
theorem Cur.more {W : World} {c : Nat} {a : Option Addr} {len cap : Nat} (h : Cur W c a len cap) (x : Obj) : Cur (W.alloc x) c a len cap := h.grew ((Below.refl _ W).alloc (Nat.le_refl _) _)
theorem Kp.more {c : Nat} {W X : World} (h : Kp c W X) (hc : c < W.heap.size) (x : Obj) : Kp c W (X.alloc x) :=
  h.trans (Kp.of_below (Nat.lt_of_lt_of_le hc h.big) ((Below.refl _ X).alloc (Nat.le_refl _) _))
theorem Kp.setNew {c : Nat} {W X : World} (h : Kp c W X) (hc : c < W.heap.size) {b o : Nat} (hb : W.heap.size ≤ b) (v : Value) : Kp c W (X.setCell ⟨b, o, none⟩ v) :=
  ⟨h.low.setCell (by show c ≤ b; omega) _, by simpa using h.big, fun d q hd hq => (World.cell?_setCell_far _ _ _ _ (by show b ≠ d; omega)).trans (h.cel d q hd hq), fun d q hd hq => by simpa [go_sem] using h.frz d q hd hq, fun d hd hq => (Below.heap_setCell X ⟨b, o, none⟩ v d (by show d ≠ b; omega)).trans (h.blk d hd hq)⟩

end Go.Proofs.YtnchndcanhmbeaaGreatDoor
