/-
  The specification's LastOf, by its plain twin; nothing old in memory turns.
-/
import Derived.Test.YtmbmekcppmbokaaGreatBSPok
import Derived.Test.YtmbmekcppmbokaaGreatBSLast
import Derived.Deep.RegionWith
import Derived.Deep.DeepCutAuto
namespace Go.Proofs.YtmbmekcppmbokaaGreat
open Go.RowKit

theorem l2Last_any (s : Bool) (H L : BitVec 64) (n : Nat) (b : Int) (hok : okB s H.toInt L.toInt = true) (hn : n ≤ wd s) (hb : b = (wd s : Int) - (n : Int)) (w : World) :
    Calls Tryz.prog 94 #[.agg #[.bool s, .int .i64 H.toInt, .int .i64 L.toInt, .int .i64 b]] w fun e w' => e = .returned (.agg #[.bool s, .int .i64 (fH n H).toInt, .int .i64 (fL n L).toInt]) ∧ Below w.heap.size w w' := by
  cases s
  · obtain ⟨rfl, hL⟩ := okB_four H L hok
    have hn' : n ≤ 32 := by simpa [wd] using hn
    have := l2Last_four L n b hn' (by simpa [wd] using hb) w
    have z : (fH n (0 : BitVec 64)) = 0 := by simp [fH, mh_32 n hn']
    rw [z]
    simpa using this
  · exact l2Last_six H L n b (by simpa [wd] using hn) (by simpa [wd] using hb) w

end Go.Proofs.YtmbmekcppmbokaaGreat
