/-
  The specification's l4Asked: whether a pool, a row and so many bits are as the chapter wants them.
-/
import Derived.Test.YtamocbkamjnonaaSAskP
import Derived.Test.YtamocbkamjnonaaSAskR
import Derived.Test.YtamocbkamjnonaaSAskB
import Derived.Test.YtamocbkamjnonaaPPart
import Derived.Test.YtamocbkamjnonaaBSHi
import Derived.Test.YtamocbkamjnonaaBSPok
namespace Go.Proofs.Ytamocbkamjnonaa
open Go.RowKit

theorem l4Asked_any (p : Pf) (a : Option Addr) (cap : Nat) (ps : List Pf) (bits : Int) (w : World) (hB : Row w a ps) (hl : ps.length ≤ 1048576) :
    Calls Try.prog 46 #[.agg #[.bool p.s, .int .i64 p.H.toInt, .int .i64 p.L.toInt, .int .i64 p.b], .slice a ps.length cap, .int .i64 bits] w fun e w' => e = .returned (.bool (askB p ps bits)) ∧ Below w.heap.size w w' := by
  unfold askB Pf.pok
  cases hpk : pokB p.s p.H p.L p.b
  · rw [Bool.false_and, Bool.false_and]; exact l4Asked_p p a cap ps bits w hB hl hpk
  · cases hr : rightP ps
    · rw [Bool.and_false, Bool.false_and]; exact l4Asked_r p a cap ps bits w hB hl hpk hr
    · rw [Bool.and_true, Bool.true_and]; exact l4Asked_b p a cap ps bits w hB hl hpk hr

end Go.Proofs.Ytamocbkamjnonaa
