/-
  The kinds of the laws' types.
-/
import Derived.Test.YtjiplphfpkhmpaaGreatE3
import Derived.Test.YtjiplphfpkhmpaaGreatRows
namespace Go.Proofs.YtjiplphfpkhmpaaGreat
open Go.ChangeShapes Go.WideShapes Go.RowKit

def cAddr := cTwo (cTwo (cTwo cNil cBool) cInt) cInt
def cPrefix := cTwo (cTwo cNil cAddr) cInt
def cPool := cTwo (cTwo cNil cPrefix) cInt
def cBlock := cTwo (cTwo cNil cPrefix) cStr
def cLease := cTwo (cTwo (cTwo (cTwo cNil cAddr) cStr) cInt) cInt
def cSession := cTwo (cTwo (cTwo (cTwo cNil cInt) cInt) cStr) cInt
def cPoolS := cRow cPool
def cBlockS := cRow cBlock
def cPlan := cTwo (cTwo cNil cPoolS) cBlockS
def cLeaseS := cRow cLease
def cBook := cTwo (cTwo (cTwo cNil cLeaseS) cInt) cInt
def cSessionS := cRow cSession
def cDesk := cTwo (cTwo cNil cSessionS) cInt
def cState := cTwo (cTwo (cTwo (cTwo cNil cPlan) cBook) cDesk) cInt
def cByteS := cRow cByte
def cFile := cTwo (cTwo cNil cByteS) cInt
def cIntS := cRow cInt
def cGroup := cTwo (cTwo cNil cIntS) cIntS
def cEntry := cTwo (cTwo (cTwo cNil cInt) cInt) cByteS
def cEntryS := cRow cEntry
def cKeep := cTwo (cTwo (cTwo (cTwo (cTwo (cTwo (cTwo cNil cInt) cInt) cInt) cInt) cGroup) cByteS) cEntryS
abbrev cIntA8 : Cd (List Int) := cArr 8
def cServer := cTwo (cTwo (cTwo (cTwo (cTwo (cTwo (cTwo (cTwo (cTwo (cTwo cNil cInt) cKeep) cInt) cInt) cInt) cIntS) cIntA8) cIntA8) cInt) cInt
def cMsg := cTwo (cTwo (cTwo (cTwo (cTwo (cTwo (cTwo (cTwo (cTwo (cTwo (cTwo cNil cInt) cInt) cInt) cInt) cInt) cInt) cEntryS) cInt) cBool) cByteS) cGroup
def cReplica := cTwo (cTwo (cTwo (cTwo (cTwo cNil cServer) cState) cInt) cFile) cBool
def cReplicaS := cRow cReplica
def cMsgS := cRow cMsg
abbrev cIntA2 : Cd (List Int) := cArr 2
def cIntA2S := cRow cIntA2
def cStringS := cRow cStr
def cCluster := cTwo (cTwo (cTwo (cTwo (cTwo (cTwo (cTwo cNil cReplicaS) cGroup) cMsgS) cIntA2S) cEntryS) cStringS) cBool
theorem tot_two {α β : Type} {A : Cd α} {T : Cd β} {x : α} {b : β} {L : Int} (h : (cTwo A T).tot (x, b) ≤ L) : A.tot x ≤ L ∧ T.tot b ≤ L := by
  have h1 := A.nn x
  have h2 := T.nn b
  have h3 : A.tot x + T.tot b ≤ L := h
  exact ⟨by omega, by omega⟩
theorem tot_le {α β : Type} {A : Cd α} {T : Cd β} {x : α} {b : β} : A.tot x ≤ (cTwo A T).tot (x, b) := by
  have h2 := T.nn b
  show A.tot x ≤ A.tot x + T.tot b
  omega
theorem post_mono {P : Program} {fn : Func} {R R' : Ending → World → Prop} (h : ∀ e w, R e w → R' e w) : ∀ e a w, bodyPost P fn R e a w → bodyPost P fn R' e a w
  | .normal, _, _, ⟨hd, v, hr, hk⟩ => ⟨hd, v, hr, h _ _ hk⟩
  | .ret, _, _, ⟨hd, v, hr, hk⟩ => ⟨hd, v, hr, h _ _ hk⟩
  | .panic _, _, _, ⟨hd, hk⟩ => ⟨hd, h _ _ hk⟩
  | .outgrown, _, _, hk => h _ _ hk

end Go.Proofs.YtjiplphfpkhmpaaGreat
